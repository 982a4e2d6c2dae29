/- Texts of ours, without what this claim does not use: NPd6 NPd7 ShM Wh NSt1 NSt2 NSt3 Wq Wz NSt4 ShU JrL13 JrR9 Knravelinlaw13 NRu NRu2 ArgT. No condition. -/
import Derived.Test.YtclpemggclmgeaaPkSheetPlays4
import Derived.Test.YtclpemggclmgeaaProg
import Derived.KernelRfl
import Derived.Test.YtclpemggclmgeaaRows
set_option maxRecDepth 100000
set_option maxHeartbeats 8000000
set_option linter.all false
namespace Go.Proofs.Ytclpemggclmgeaa
open Go Go.Ev
section
variable {L : List Tbl} {N : Nat}
theorem srt_ext {R : Nat → Nat → Bool} {q : Nat → Nat} {a i : Nat} (o : Ord R) (h : Srt R q a i) (hi : a + 1 ≤ i) (hk : R (q i) (q (i - 1)) = false) : Srt R q a (i + 1) := fun x y h1 h2 h3 => by
 by_cases e : y = i
 · subst e
   by_cases e2 : x = y - 1
   · rw [e2]; exact hk
   · exact o.nt hk (h x (y - 1) h1 (by omega) (by omega))
 · exact h x y h1 h2 (by omega)
theorem psort_ok {h : H} {v : V} {p : Nat → Nat} {a b : Nat} (rb0 : Rt h v (rwN L p N)) (h1 : a < b) (h2 : b ≤ N) (hN : N ≤ 1000) (hlow : Low (ltL L) p a b) (hf : B.val h.floor ≤ B.val h.next) : FnOk Try.prog 76 [v, .i .i64 (a : Int), .i .i64 (b : Int), .f 50 []] h fun r h' =>
   ∃ (z : Bool) (q : Nat → Nat), r = .b z ∧ (z = true → Srt (ltL L) q a b) ∧ Swp a b p q ∧ Rt h' v (rwN L q N) ∧ Stay (isOf v) h h' := by
 have ln : ∀ q : Nat → Nat, (rwN L q N).length = N := fun q => rwN_len
 have gx : ∀ (q : Nat → Nat) j, j < N → (rwN L q N).getD j default = L.getD (q j) default := fun q j hj => rwN_getD hj
 have o := ltL_ord L
 refine fn_go c76 (by intro hb; cases hb) (by simp) (by simp) fun Q hQ => ?_
 simp only [slotsF, Nat.reduceAdd]
 -- the greater one goes up
 have right : ∀ (K : X → F → H → Prop) (t : F) (g : H) (i n : Nat) (q : Nat → Nat), a + 1 ≤ i → i < b → get 0 t = v → get 1 t = .i .i64 (a : Int) → get 2 t = .i .i64 (b : Int) → get 3 t = .f 50 [] → get 9 t = .i .i64 (i : Int) → get 10 t = .i .i64 (n : Int) → Srt (ltL L) q a i → Swp a b p q → Rt g v (rwN L q N) → Stay (isOf v) h g →
     (∀ t g (q : Nat → Nat), get 0 t = v → get 1 t = .i .i64 (a : Int) → get 2 t = .i .i64 (b : Int) → get 3 t = .f 50 [] → get 9 t = .i .i64 (i : Int) → get 10 t = .i .i64 (n : Int) → Srt (ltL L) q a i → Swp a b p q → Rt g v (rwN L q N) → Stay (isOf v) h g → K .normal t g) → Ok Try.prog 141 s76_41 t g K := fun K t g i n q hi hib f0 f1 f2 f3 f9 f10 hs sw rb st kk => by
   by_cases hd : i + 2 ≤ b
   case neg =>
     have d1 : ((2 : Int) ≤ (b : Int) - (i : Int)) = False := eq_false (by omega)
     repeat' (first
       | refine St.h ?_
       | simp (disch := first | omega | (simp only [lnv]; omega)) only [wlk, ↓get_put', ↓reduceIte, seval, f0, f1, f2, f3, f9, f10, d1]
       | (with_reducible (first | apply cd_split | apply gd_split)) <;> (intro hc; (try simp only [hcn] at hc); (try simp only [hc]); (try simp only [hcl] at hc); try omega))
     exact kk _ g q (by simp (disch := first | omega | (simp only [lnv]; omega)) only [wlk, ↓get_put', ↓reduceIte, seval, f0]) (by simp (disch := first | omega | (simp only [lnv]; omega)) only [wlk, ↓get_put', ↓reduceIte, seval, f1]) (by simp (disch := first | omega | (simp only [lnv]; omega)) only [wlk, ↓get_put', ↓reduceIte, seval, f2]) (by simp (disch := first | omega | (simp only [lnv]; omega)) only [wlk, ↓get_put', ↓reduceIte, seval, f3]) (by simp (disch := first | omega | (simp only [lnv]; omega)) only [wlk, ↓get_put', ↓reduceIte, seval, f9]) (by simp (disch := first | omega | (simp only [lnv]; omega)) only [wlk, ↓get_put', ↓reduceIte, seval, f10]) hs sw rb st
   have d1 : ((2 : Int) ≤ (b : Int) - (i : Int)) = True := eq_true (by omega)
   repeat' (first
     | refine St.h ?_
     | simp (disch := first | omega | (simp only [lnv]; omega)) only [wlk, ↓get_put', ↓reduceIte, seval, f0, f1, f2, f3, f9, f10, d1]
     | (with_reducible (first | apply cd_split | apply gd_split)) <;> (intro hc; (try simp only [hcn] at hc); (try simp only [hc]); (try simp only [hcl] at hc); try omega))
   refine Ok.lp (fun m t g => ∃ (j : Nat) (q : Nat → Nat), m = b - j ∧ i + 1 ≤ j ∧ j ≤ b ∧ get 0 t = v ∧ get 1 t = .i .i64 (a : Int) ∧ get 2 t = .i .i64 (b : Int) ∧ get 3 t = .f 50 [] ∧ get 9 t = .i .i64 (i : Int) ∧ get 10 t = .i .i64 (n : Int) ∧ get 12 t = .i .i64 (j : Int) ∧ Srt (ltL L) q a i ∧ Swp a b p q ∧ Rt g v (rwN L q N) ∧ Stay (isOf v) h g) (b - (i + 1)) ?_ ?_
   · simp (disch := first | omega | (simp only [lnv]; omega)) only [wlk, ↓get_put', ↓reduceIte, seval, f0, f1, f2, f3, f9, f10]
     refine ⟨i + 1, q, rfl, by omega, by omega, ?_⟩
     refine ⟨?_, ?_, ?_, ?_, ?_, ?_, ?_, hs, sw, rb, st⟩
     all_goals first | trivial | rfl
   rintro I hI m t g ⟨j, q, rfl, hj, hjb, f0, f1, f2, f3, f9, f10, f12, hs, sw, rb, st⟩
   have hfg := st.fl hf
   have W1 := rb.tbs
   have l1 := ln q
   by_cases hl : j < b
   case neg =>
     have d2 : ((j : Int) < (b : Int)) = False := eq_false (by omega)
     repeat' (first
       | refine St.h ?_
       | simp (disch := first | omega | (simp only [lnv]; omega)) only [wlk, ↓get_put', ↓reduceIte, seval, f0, f1, f2, f3, f9, f10, f12, d2]
       | (with_reducible (first | apply cd_split | apply gd_split)) <;> (intro hc; (try simp only [hcn] at hc); (try simp only [hc]); (try simp only [hcl] at hc); try omega))
     exact kk _ g q (by simp (disch := first | omega | (simp only [lnv]; omega)) only [wlk, ↓get_put', ↓reduceIte, seval, f0]) (by simp (disch := first | omega | (simp only [lnv]; omega)) only [wlk, ↓get_put', ↓reduceIte, seval, f1]) (by simp (disch := first | omega | (simp only [lnv]; omega)) only [wlk, ↓get_put', ↓reduceIte, seval, f2]) (by simp (disch := first | omega | (simp only [lnv]; omega)) only [wlk, ↓get_put', ↓reduceIte, seval, f3]) (by simp (disch := first | omega | (simp only [lnv]; omega)) only [wlk, ↓get_put', ↓reduceIte, seval, f9]) (by simp (disch := first | omega | (simp only [lnv]; omega)) only [wlk, ↓get_put', ↓reduceIte, seval, f10]) hs sw rb st
   have d2 : ((j : Int) < (b : Int)) = True := eq_true (by omega)
   have ej : ((j : Int) - 1).toNat = j - 1 := by omega
   have ga := gx q j (by omega)
   have gb := gx q (j - 1) (by omega)
   repeat' (first
     | refine St.h ?_
     | simp (disch := first | omega | (simp only [lnv]; omega)) only [wlk, ↓get_put', ↓reduceIte, seval, f0, f1, f2, f3, f9, f10, f12, d2, ej, ga, gb, W1.ix, W1.la, Int.toNat_natCast]
     | (with_reducible (first | apply cd_split | apply gd_split)) <;> (intro hc; (try simp only [hcn] at hc); (try simp only [hc]); (try simp only [hcl] at hc); try omega))
   refine CL.stay (byTier_ok (a := L.getD (q j) default) (b := L.getD (q (j - 1)) default) hfg) fun g2 s2 => ?_
   have rb2 := rb.grow s2
   have st2 := st.trans (stay_up s2)
   have W2 := rb2.tbs
   cases hk : ltL L (q j) (q (j - 1)) with
   | false =>
     have d3 := cmpL_f hk
     repeat' (first
       | refine St.h ?_
       | simp (disch := first | omega | (simp only [lnv]; omega)) only [wlk, ↓get_put', ↓reduceIte, seval, f0, f1, f2, f3, f9, f10, f12, d3]
       | (with_reducible (first | apply cd_split | apply gd_split)) <;> (intro hc; (try simp only [hcn] at hc); (try simp only [hc]); (try simp only [hcl] at hc); try omega))
     exact kk _ _ q (by simp (disch := first | omega | (simp only [lnv]; omega)) only [wlk, ↓get_put', ↓reduceIte, seval, f0]) (by simp (disch := first | omega | (simp only [lnv]; omega)) only [wlk, ↓get_put', ↓reduceIte, seval, f1]) (by simp (disch := first | omega | (simp only [lnv]; omega)) only [wlk, ↓get_put', ↓reduceIte, seval, f2]) (by simp (disch := first | omega | (simp only [lnv]; omega)) only [wlk, ↓get_put', ↓reduceIte, seval, f3]) (by simp (disch := first | omega | (simp only [lnv]; omega)) only [wlk, ↓get_put', ↓reduceIte, seval, f9]) (by simp (disch := first | omega | (simp only [lnv]; omega)) only [wlk, ↓get_put', ↓reduceIte, seval, f10]) hs sw rb2 st2
   | true =>
     have d3 := cmpL_t hk
     repeat' (first
       | refine St.h ?_
       | simp (disch := first | omega | (simp only [lnv]; omega)) only [wlk, ↓get_put', ↓reduceIte, seval, f0, f1, f2, f3, f9, f10, f12, d3, ej, ga, gb, W2.ix, W2.la, Int.toNat_natCast]
       | (with_reducible (first | apply cd_split | apply gd_split)) <;> (intro hc; (try simp only [hcn] at hc); (try simp only [hc]); (try simp only [hcl] at hc); try omega))
     refine ST.sw1 rb2 hN (by omega) fun h3 B3 s3 => ?_
     have W3 := B3.tbs
     repeat' (first
       | refine St.h ?_
       | simp (disch := first | omega | (simp only [lnv]; omega)) only [wlk, ↓get_put', ↓reduceIte, seval, f0, f1, f2, f3, f9, f10, f12, ej, W3.ix]
       | (with_reducible (first | apply cd_split | apply gd_split)) <;> (intro hc; (try simp only [hcn] at hc); (try simp only [hc]); (try simp only [hcl] at hc); try omega))
     refine ST.sw2 B3 hN (by omega) fun h4 B4 s4 => ?_
     repeat' (first
       | refine St.h ?_
       | simp (disch := first | omega | (simp only [lnv]; omega)) only [wlk, ↓get_put', ↓reduceIte, seval, f0, f1, f2, f3, f9, f10, f12]
       | (with_reducible (first | apply cd_split | apply gd_split)) <;> (intro hc; (try simp only [hcn] at hc); (try simp only [hc]); (try simp only [hcl] at hc); try omega))
     refine lp_next hI (b - (j + 1)) (by omega) ⟨j + 1, swN q j (j - 1), rfl, by omega, by omega, by simp (disch := first | omega | (simp only [lnv]; omega)) only [wlk, ↓get_put', ↓reduceIte, seval, f0], by simp (disch := first | omega | (simp only [lnv]; omega)) only [wlk, ↓get_put', ↓reduceIte, seval, f1], by simp (disch := first | omega | (simp only [lnv]; omega)) only [wlk, ↓get_put', ↓reduceIte, seval, f2], by simp (disch := first | omega | (simp only [lnv]; omega)) only [wlk, ↓get_put', ↓reduceIte, seval, f3], by simp (disch := first | omega | (simp only [lnv]; omega)) only [wlk, ↓get_put', ↓reduceIte, seval, f9], by simp (disch := first | omega | (simp only [lnv]; omega)) only [wlk, ↓get_put', ↓reduceIte, seval, f10], by simp (disch := first | omega | (simp only [lnv]; omega)) only [wlk, ↓get_put', ↓reduceIte, seval, f12]; rfl, srt_out hs fun k k1 k2 => sw_o (by omega) (by omega), sw.trans (.one (by omega) (by omega) (by omega) (by omega)), B4, st2.trans (s3.trans s4)⟩
 repeat' (first
   | refine St.h ?_
   | simp (disch := first | omega | (simp only [lnv]; omega)) only [wlk, ↓get_put', ↓reduceIte, seval]
   | (with_reducible (first | apply cd_split | apply gd_split)) <;> (intro hc; (try simp only [hcn] at hc); (try simp only [hc]); (try simp only [hcl] at hc); try omega))
 refine Ok.lp (fun m t g => ∃ (n i : Nat) (q : Nat → Nat), m = 5 - n ∧ n ≤ 5 ∧ a + 1 ≤ i ∧ i ≤ b ∧ get 0 t = v ∧ get 1 t = .i .i64 (a : Int) ∧ get 2 t = .i .i64 (b : Int) ∧ get 3 t = .f 50 [] ∧ get 9 t = .i .i64 (i : Int) ∧ get 10 t = .i .i64 (n : Int) ∧ Srt (ltL L) q a i ∧ Swp a b p q ∧ Rt g v (rwN L q N) ∧ Stay (isOf v) h g) 5 ?_ ?_
 · simp (disch := first | omega | (simp only [lnv]; omega)) only [wlk, ↓get_put', ↓reduceIte, seval]
   refine ⟨0, a + 1, p, rfl, by omega, by omega, by omega, ?_⟩
   refine ⟨?_, ?_, ?_, ?_, ?_, ?_, fun i j h1 h2 h3 => by omega, .refl _, rb0, ⟨rfl, Nat.le_refl _, fun _ _ _ => rfl⟩⟩
   all_goals first | trivial | rfl
 rintro I0 hI0 m0 t0 g0 ⟨n, i0, q, rfl, hn, hi0, hib0, f0, f1, f2, f3, f9, f10, hs, sw, rb, st⟩
 by_cases hn5 : n < 5
 case neg =>
   have d1 : ((n : Int) < 5) = False := eq_false (by omega)
   repeat' (first
     | refine St.h ?_
     | simp (disch := first | omega | (simp only [lnv]; omega)) only [wlk, ↓get_put', ↓reduceIte, seval, f0, f1, f2, f3, f9, f10, d1]
     | (with_reducible (first | apply cd_split | apply gd_split)) <;> (intro hc; (try simp only [hcn] at hc); (try simp only [hc]); (try simp only [hcl] at hc); try omega))
   subst hQ
   exact ⟨false, q, rfl, (fun e => by cases e), sw, rb, st⟩
 have d1 : ((n : Int) < 5) = True := eq_true (by omega)
 repeat' (first
   | refine St.h ?_
   | simp (disch := first | omega | (simp only [lnv]; omega)) only [wlk, ↓get_put', ↓reduceIte, seval, f0, f1, f2, f3, f9, f10, d1]
   | (with_reducible (first | apply cd_split | apply gd_split)) <;> (intro hc; (try simp only [hcn] at hc); (try simp only [hc]); (try simp only [hcl] at hc); try omega))
 -- as far as it is in order
 refine Ok.lp (fun m t g => ∃ (i : Nat), m = b - i ∧ a + 1 ≤ i ∧ i ≤ b ∧ get 0 t = v ∧ get 1 t = .i .i64 (a : Int) ∧ get 2 t = .i .i64 (b : Int) ∧ get 3 t = .f 50 [] ∧ get 9 t = .i .i64 (i : Int) ∧ get 10 t = .i .i64 (n : Int) ∧ Srt (ltL L) q a i ∧ Rt g v (rwN L q N) ∧ Stay (isOf v) h g) (b - i0) ?_ ?_
 · simp (disch := first | omega | (simp only [lnv]; omega)) only [wlk, ↓get_put', ↓reduceIte, seval, f0, f1, f2, f3, f9, f10]
   refine ⟨i0, rfl, by omega, by omega, ?_⟩
   refine ⟨?_, ?_, ?_, ?_, ?_, ?_, hs, rb, st⟩
   all_goals first | trivial | rfl
 rintro I1 hI1 m1 t1 g1 ⟨i, rfl, hi, hib, f0, f1, f2, f3, f9, f10, hs, rb, st⟩
 have hfg := st.fl hf
 have W1 := rb.tbs
 have l1 := ln q
 by_cases hl : i < b
 case neg =>
   obtain rfl : i = b := by omega
   have d2 : ((i : Int) < (i : Int)) = False := eq_false (by omega)
   repeat' (first
     | refine St.h ?_
     | simp (disch := first | omega | (simp only [lnv]; omega)) only [wlk, ↓get_put', ↓reduceIte, seval, f0, f1, f2, f3, f9, f10, d2]
     | (with_reducible (first | apply cd_split | apply gd_split)) <;> (intro hc; (try simp only [hcn] at hc); (try simp only [hc]); (try simp only [hcl] at hc); try omega))
   subst hQ
   exact ⟨true, q, rfl, fun _ => hs, sw, rb, st⟩
 have d2 : ((i : Int) < (b : Int)) = True := eq_true (by omega)
 have ei : ((i : Int) - 1).toNat = i - 1 := by omega
 have ei2 : (i : Int) - 1 = ((i - 1 : Nat) : Int) := by omega
 have ga := gx q i (by omega)
 have gb := gx q (i - 1) (by omega)
 repeat' (first
   | refine St.h ?_
   | simp (disch := first | omega | (simp only [lnv]; omega)) only [wlk, ↓get_put', ↓reduceIte, seval, f0, f1, f2, f3, f9, f10, d2, ei, ga, gb, W1.ix, W1.la, Int.toNat_natCast]
   | (with_reducible (first | apply cd_split | apply gd_split)) <;> (intro hc; (try simp only [hcn] at hc); (try simp only [hc]); (try simp only [hcl] at hc); try omega))
 refine CL.stay (byTier_ok (a := L.getD (q i) default) (b := L.getD (q (i - 1)) default) hfg) fun g2 s2 => ?_
 have rb2 := rb.grow s2
 have st2 := st.trans (stay_up s2)
 have W2 := rb2.tbs
 cases hk : ltL L (q i) (q (i - 1)) with
 | false =>
   have d3 := cmpL_f hk
   repeat' (first
     | refine St.h ?_
     | simp (disch := first | omega | (simp only [lnv]; omega)) only [wlk, ↓get_put', ↓reduceIte, seval, f0, f1, f2, f3, f9, f10, d3]
     | (with_reducible (first | apply cd_split | apply gd_split)) <;> (intro hc; (try simp only [hcn] at hc); (try simp only [hc]); (try simp only [hcl] at hc); try omega))
   exact lp_next hI1 (b - (i + 1)) (by omega) ⟨i + 1, rfl, by omega, by omega, by simp (disch := first | omega | (simp only [lnv]; omega)) only [wlk, ↓get_put', ↓reduceIte, seval, f0], by simp (disch := first | omega | (simp only [lnv]; omega)) only [wlk, ↓get_put', ↓reduceIte, seval, f1], by simp (disch := first | omega | (simp only [lnv]; omega)) only [wlk, ↓get_put', ↓reduceIte, seval, f2], by simp (disch := first | omega | (simp only [lnv]; omega)) only [wlk, ↓get_put', ↓reduceIte, seval, f3], by simp (disch := first | omega | (simp only [lnv]; omega)) only [wlk, ↓get_put', ↓reduceIte, seval, f9]; rfl, by simp (disch := first | omega | (simp only [lnv]; omega)) only [wlk, ↓get_put', ↓reduceIte, seval, f10], srt_ext o hs hi hk, rb2, st2⟩
 | true =>
 have d3 := cmpL_t hk
 have d4 : ((i : Int) = (b : Int)) = False := eq_false (by omega)
 by_cases h50 : 50 ≤ b - a
 case neg =>
   have d5 : ((b : Int) - (a : Int) < 50) = True := eq_true (by omega)
   repeat' (first
     | refine St.h ?_
     | simp (disch := first | omega | (simp only [lnv]; omega)) only [wlk, ↓get_put', ↓reduceIte, seval, f0, f1, f2, f3, f9, f10, d3, d4, d5]
     | (with_reducible (first | apply cd_split | apply gd_split)) <;> (intro hc; (try simp only [hcn] at hc); (try simp only [hc]); (try simp only [hcl] at hc); try omega))
   subst hQ
   exact ⟨false, q, rfl, (fun e => by cases e), sw, rb2, st2⟩
 have d5 : ((b : Int) - (a : Int) < 50) = False := eq_false (by omega)
 repeat' (first
   | refine St.h ?_
   | simp (disch := first | omega | (simp only [lnv]; omega)) only [wlk, ↓get_put', ↓reduceIte, seval, f0, f1, f2, f3, f9, f10, d3, d4, d5, ei, ga, gb, W2.ix, W2.la, Int.toNat_natCast]
   | (with_reducible (first | apply cd_split | apply gd_split)) <;> (intro hc; (try simp only [hcn] at hc); (try simp only [hc]); (try simp only [hcl] at hc); try omega))
 refine ST.sw1 rb2 hN (by omega) fun h3 B3 s3 => ?_
 have W3 := B3.tbs
 repeat' (first
   | refine St.h ?_
   | simp (disch := first | omega | (simp only [lnv]; omega)) only [wlk, ↓get_put', ↓reduceIte, seval, f0, f1, f2, f3, f9, f10, ei, W3.ix]
   | (with_reducible (first | apply cd_split | apply gd_split)) <;> (intro hc; (try simp only [hcn] at hc); (try simp only [hc]); (try simp only [hcl] at hc); try omega))
 refine ST.sw2 B3 hN (by omega) fun h4 B4 s4 => ?_
 have st4 := st2.trans (s3.trans s4)
 have sw4 : Swp a b p (swN q i (i - 1)) := sw.trans (.one (by omega) (by omega) (by omega) (by omega))
 have hs4 : Srt (ltL L) (swN q i (i - 1)) a (i - 1) := fun x y x1 x2 x3 => by
   rw [sw_o (by omega) (by omega), sw_o (by omega) (by omega)]; exact hs x y x1 x2 (by omega)
 generalize hq4 : swN q i (i - 1) = q4 at *
 have next : ∀ t g (q : Nat → Nat), get 0 t = v → get 1 t = .i .i64 (a : Int) → get 2 t = .i .i64 (b : Int) → get 3 t = .f 50 [] → get 9 t = .i .i64 (i : Int) → get 10 t = .i .i64 ((n + 1 : Nat) : Int) → Srt (ltL L) q a i → Swp a b p q → Rt g v (rwN L q N) → Stay (isOf v) h g → LpG I0 (5 - n) t g := fun t g q x0 x1 x2 x3 x9 x10 hs sw rb st =>
   lp_next hI0 (5 - (n + 1)) (by omega) ⟨n + 1, i, q, rfl, by omega, hi, hib, x0, x1, x2, x3, x9, x10, hs, sw, rb, st⟩
 by_cases hd : a + 2 ≤ i
 case neg =>
   have d6 : ((2 : Int) ≤ (i : Int) - (a : Int)) = False := eq_false (by omega)
   repeat' (first
     | refine right _ _ _ i n q4 hi hl ?_ ?_ ?_ ?_ ?_ ?_ (fun x y x1 x2 x3 => by omega) sw4 B4 st4 (fun t g q x0 x1 x2 x3 x9 x10 hs sw rb st => ?_)
     | refine St.h ?_
     | simp (disch := first | omega | (simp only [lnv]; omega)) only [wlk, ↓get_put', ↓reduceIte, seval, f0, f1, f2, f3, f9, f10, d6]
     | (with_reducible (first | apply cd_split | apply gd_split)) <;> (intro hc; (try simp only [hcn] at hc); (try simp only [hc]); (try simp only [hcl] at hc); try omega))
   repeat' (first
     | refine St.h ?_
     | simp (disch := first | omega | (simp only [lnv]; omega)) only [wlk, ↓get_put', ↓reduceIte, seval, x0, x1, x2, x3, x9, x10]
     | (with_reducible (first | apply cd_split | apply gd_split)) <;> (intro hc; (try simp only [hcn] at hc); (try simp only [hc]); (try simp only [hcl] at hc); try omega))
   refine next _ _ q ?_ ?_ ?_ ?_ ?_ ?_ hs sw rb st
   all_goals first | (simp (disch := first | omega | (simp only [lnv]; omega)) only [wlk, ↓get_put', ↓reduceIte, seval, x0]; done) | (simp (disch := first | omega | (simp only [lnv]; omega)) only [wlk, ↓get_put', ↓reduceIte, seval, x1]; done) | (simp (disch := first | omega | (simp only [lnv]; omega)) only [wlk, ↓get_put', ↓reduceIte, seval, x2]; done) | (simp (disch := first | omega | (simp only [lnv]; omega)) only [wlk, ↓get_put', ↓reduceIte, seval, x3]; done) | (simp (disch := first | omega | (simp only [lnv]; omega)) only [wlk, ↓get_put', ↓reduceIte, seval, x9]; done) | (simp (disch := first | omega | (simp only [lnv]; omega)) only [wlk, ↓get_put', ↓reduceIte, seval, x10]; rfl)
 have d6 : ((2 : Int) ≤ (i : Int) - (a : Int)) = True := eq_true (by omega)
 repeat' (first
   | refine St.h ?_
   | simp (disch := first | omega | (simp only [lnv]; omega)) only [wlk, ↓get_put', ↓reduceIte, seval, f0, f1, f2, f3, f9, f10, d6, ei2]
   | (with_reducible (first | apply cd_split | apply gd_split)) <;> (intro hc; (try simp only [hcn] at hc); (try simp only [hc]); (try simp only [hcl] at hc); try omega))
 -- the lesser one goes down
 refine Ok.lp (fun m t g => ∃ (j : Nat) (q : Nat → Nat), m = j ∧ a ≤ j ∧ j ≤ i - 1 ∧ get 0 t = v ∧ get 1 t = .i .i64 (a : Int) ∧ get 2 t = .i .i64 (b : Int) ∧ get 3 t = .f 50 [] ∧ get 9 t = .i .i64 (i : Int) ∧ get 10 t = .i .i64 (n : Int) ∧ get 11 t = .i .i64 (j : Int) ∧ MidN (ltL L) q a (i - 1) j ∧ Swp a b p q ∧ Rt g v (rwN L q N) ∧ Stay (isOf v) h g) (i - 1) ?_ ?_
 · simp (disch := first | omega | (simp only [lnv]; omega)) only [wlk, ↓get_put', ↓reduceIte, seval, f0, f1, f2, f3, f9, f10, ei2]
   refine ⟨i - 1, q4, rfl, by omega, by omega, ?_⟩
   refine ⟨?_, ?_, ?_, ?_, ?_, ?_, ?_, mid_new hs4, sw4, B4, st4⟩
   all_goals first | trivial | rfl
 clear W1 W2 W3 rb rb2 B3 B4 hs f0 f1 f2 f3 f9 f10 ga gb
 rintro I5 hI5 m5 t5 g5 ⟨j, q5, rfl, hj, hji, f0, f1, f2, f3, f9, f10, f11, hM, sw5, rb5, st5⟩
 have hf5 := st5.fl hf
 have W5 := rb5.tbs
 have l5 := ln q5
 by_cases h0 : m5 = 0
 case pos =>
   subst h0
   have d7 : ((1 : Int) ≤ ((0 : Nat) : Int)) = False := eq_false (by omega)
   have hsd : Srt (ltL L) q5 a i := by
     have := mid_done o hM (Nat.zero_le _) (.inl (by omega)) hj
     rwa [show i - 1 + 1 = i by omega] at this
   repeat' (first
     | refine right _ _ _ i n q5 hi hl ?_ ?_ ?_ ?_ ?_ ?_ hsd sw5 rb5 st5 (fun t g q x0 x1 x2 x3 x9 x10 hs sw rb st => ?_)
     | refine St.h ?_
     | simp (disch := first | omega | (simp only [lnv]; omega)) only [wlk, ↓get_put', ↓reduceIte, seval, f0, f1, f2, f3, f9, f10, f11, d7]
     | (with_reducible (first | apply cd_split | apply gd_split)) <;> (intro hc; (try simp only [hcn] at hc); (try simp only [hc]); (try simp only [hcl] at hc); try omega))
   repeat' (first
     | refine St.h ?_
     | simp (disch := first | omega | (simp only [lnv]; omega)) only [wlk, ↓get_put', ↓reduceIte, seval, x0, x1, x2, x3, x9, x10]
     | (with_reducible (first | apply cd_split | apply gd_split)) <;> (intro hc; (try simp only [hcn] at hc); (try simp only [hc]); (try simp only [hcl] at hc); try omega))
   refine next _ _ q ?_ ?_ ?_ ?_ ?_ ?_ hs sw rb st
   all_goals first | (simp (disch := first | omega | (simp only [lnv]; omega)) only [wlk, ↓get_put', ↓reduceIte, seval, x0]; done) | (simp (disch := first | omega | (simp only [lnv]; omega)) only [wlk, ↓get_put', ↓reduceIte, seval, x1]; done) | (simp (disch := first | omega | (simp only [lnv]; omega)) only [wlk, ↓get_put', ↓reduceIte, seval, x2]; done) | (simp (disch := first | omega | (simp only [lnv]; omega)) only [wlk, ↓get_put', ↓reduceIte, seval, x3]; done) | (simp (disch := first | omega | (simp only [lnv]; omega)) only [wlk, ↓get_put', ↓reduceIte, seval, x9]; done) | (simp (disch := first | omega | (simp only [lnv]; omega)) only [wlk, ↓get_put', ↓reduceIte, seval, x10]; rfl)
 obtain ⟨u, rfl⟩ : ∃ u, m5 = u + 1 := ⟨m5 - 1, by omega⟩
 have d7 : ((1 : Int) ≤ ((u + 1 : Nat) : Int)) = True := eq_true (by omega)
 have eu : (((u + 1 : Nat) : Int) - 1).toNat = u := by omega
 have eu2 : ((u + 1 : Nat) : Int) - 1 = (u : Int) := by omega
 have ga := gx q5 (u + 1) (by omega)
 have gb := gx q5 u (by omega)
 repeat' (first
   | refine St.h ?_
   | simp (disch := first | omega | (simp only [lnv]; omega)) only [wlk, ↓get_put', ↓reduceIte, seval, f0, f1, f2, f3, f9, f10, f11, d7, eu, ga, gb, W5.ix, W5.la, Int.toNat_natCast]
   | (with_reducible (first | apply cd_split | apply gd_split)) <;> (intro hc; (try simp only [hcn] at hc); (try simp only [hc]); (try simp only [hcl] at hc); try omega))
 refine CL.stay (byTier_ok (a := L.getD (q5 (u + 1)) default) (b := L.getD (q5 u) default) hf5) fun g6 s6 => ?_
 have rb6 := rb5.grow s6
 have st6 := st5.trans (stay_up s6)
 have W6 := rb6.tbs
 cases hk5 : ltL L (q5 (u + 1)) (q5 u) with
 | false =>
   have d8 := cmpL_f hk5
   have hsd : Srt (ltL L) q5 a i := by
     have := mid_done o hM hji (.inr hk5) hj
     rwa [show i - 1 + 1 = i by omega] at this
   repeat' (first
     | refine right _ _ _ i n q5 hi hl ?_ ?_ ?_ ?_ ?_ ?_ hsd sw5 rb6 st6 (fun t g q x0 x1 x2 x3 x9 x10 hs sw rb st => ?_)
     | refine St.h ?_
     | simp (disch := first | omega | (simp only [lnv]; omega)) only [wlk, ↓get_put', ↓reduceIte, seval, f0, f1, f2, f3, f9, f10, f11, d8]
     | (with_reducible (first | apply cd_split | apply gd_split)) <;> (intro hc; (try simp only [hcn] at hc); (try simp only [hc]); (try simp only [hcl] at hc); try omega))
   repeat' (first
     | refine St.h ?_
     | simp (disch := first | omega | (simp only [lnv]; omega)) only [wlk, ↓get_put', ↓reduceIte, seval, x0, x1, x2, x3, x9, x10]
     | (with_reducible (first | apply cd_split | apply gd_split)) <;> (intro hc; (try simp only [hcn] at hc); (try simp only [hc]); (try simp only [hcl] at hc); try omega))
   refine next _ _ q ?_ ?_ ?_ ?_ ?_ ?_ hs sw rb st
   all_goals first | (simp (disch := first | omega | (simp only [lnv]; omega)) only [wlk, ↓get_put', ↓reduceIte, seval, x0]; done) | (simp (disch := first | omega | (simp only [lnv]; omega)) only [wlk, ↓get_put', ↓reduceIte, seval, x1]; done) | (simp (disch := first | omega | (simp only [lnv]; omega)) only [wlk, ↓get_put', ↓reduceIte, seval, x2]; done) | (simp (disch := first | omega | (simp only [lnv]; omega)) only [wlk, ↓get_put', ↓reduceIte, seval, x3]; done) | (simp (disch := first | omega | (simp only [lnv]; omega)) only [wlk, ↓get_put', ↓reduceIte, seval, x9]; done) | (simp (disch := first | omega | (simp only [lnv]; omega)) only [wlk, ↓get_put', ↓reduceIte, seval, x10]; rfl)
 | true =>
   have d8 := cmpL_t hk5
   have hau : a ≤ u := Nat.le_of_not_lt fun hlt => by
     have := hlow.sw sw5 u (u + 1) hlt hj (by omega)
     rw [hk5] at this; cases this
   repeat' (first
     | refine St.h ?_
     | simp (disch := first | omega | (simp only [lnv]; omega)) only [wlk, ↓get_put', ↓reduceIte, seval, f0, f1, f2, f3, f9, f10, f11, d8, eu, ga, gb, W6.ix, W6.la, Int.toNat_natCast]
     | (with_reducible (first | apply cd_split | apply gd_split)) <;> (intro hc; (try simp only [hcn] at hc); (try simp only [hc]); (try simp only [hcl] at hc); try omega))
   refine ST.sw1 rb6 hN (by omega) fun h7 B7 s7 => ?_
   have W7 := B7.tbs
   repeat' (first
     | refine St.h ?_
     | simp (disch := first | omega | (simp only [lnv]; omega)) only [wlk, ↓get_put', ↓reduceIte, seval, f0, f1, f2, f3, f9, f10, f11, eu, W7.ix]
     | (with_reducible (first | apply cd_split | apply gd_split)) <;> (intro hc; (try simp only [hcn] at hc); (try simp only [hc]); (try simp only [hcl] at hc); try omega))
   refine ST.sw2 B7 hN (by omega) fun h8 B8 s8 => ?_
   repeat' (first
     | refine St.h ?_
     | simp (disch := first | omega | (simp only [lnv]; omega)) only [wlk, ↓get_put', ↓reduceIte, seval, f0, f1, f2, f3, f9, f10, f11]
     | (with_reducible (first | apply cd_split | apply gd_split)) <;> (intro hc; (try simp only [hcn] at hc); (try simp only [hc]); (try simp only [hcl] at hc); try omega))
   exact lp_next hI5 u (by omega) ⟨u, swN q5 (u + 1) u, rfl, hau, by omega, by simp (disch := first | omega | (simp only [lnv]; omega)) only [wlk, ↓get_put', ↓reduceIte, seval, f0], by simp (disch := first | omega | (simp only [lnv]; omega)) only [wlk, ↓get_put', ↓reduceIte, seval, f1], by simp (disch := first | omega | (simp only [lnv]; omega)) only [wlk, ↓get_put', ↓reduceIte, seval, f2], by simp (disch := first | omega | (simp only [lnv]; omega)) only [wlk, ↓get_put', ↓reduceIte, seval, f3], by simp (disch := first | omega | (simp only [lnv]; omega)) only [wlk, ↓get_put', ↓reduceIte, seval, f9], by simp (disch := first | omega | (simp only [lnv]; omega)) only [wlk, ↓get_put', ↓reduceIte, seval, f10], by simp (disch := first | omega | (simp only [lnv]; omega)) only [wlk, ↓get_put', ↓reduceIte, seval, eu2, f11], mid_swp o hM hau hji hk5, sw5.trans (.one (by omega) (by omega) (by omega) (by omega)), B8, st6.trans (s7.trans s8)⟩
end
end Go.Proofs.Ytclpemggclmgeaa

set_option maxRecDepth 100000
set_option maxHeartbeats 8000000
set_option linter.all false
namespace Go.Proofs.Ytclpemggclmgeaa
open Go Go.Ev
def PdOk (L : List Tbl) (N K : Nat) : Prop := ∀ {h : H} {v : V} {p : Nat → Nat} {a b lim : Nat}, b - a < K → lim ≤ 1000 → Rt h v (rwN L p N) → a ≤ b → b ≤ N → Low (ltL L) p a b → B.val h.floor ≤ B.val h.next →
 FnOk Try.prog 61 [v, .i .i64 (a : Int), .i .i64 (b : Int), .i .i64 (lim : Int), .f 50 []] h fun y h' => ∃ q, Swp a b p q ∧ Srt (ltL L) q a b ∧ Rt h' v (rwN L q N) ∧ Stay (isOf v) h h'
section
variable {L : List Tbl} {N : Nat}
theorem pd_step {K : Nat} (hN : N ≤ 200) (ih : PdOk L N K) : PdOk L N (K + 1) := by
 intro h v p a0 b0 lim0 hK hlim0 rb0 hab hbN hlow0 hf
 have ln : ∀ q : Nat → Nat, (rwN L q N).length = N := fun q => rwN_len
 have gx : ∀ (q : Nat → Nat) j, j < N → (rwN L q N).getD j default = L.getD (q j) default := fun q j hj => rwN_getD hj
 have o := ltL_ord L
 refine fn_go c61 (by intro hb; cases hb) (by simp) (by simp) fun Q hQ => ?_
 simp only [slotsF, Nat.reduceAdd]
 -- what the loop keeps
 let Inv : Nat → Nat → (Nat → Nat) → H → Prop := fun a b q g => a0 ≤ a ∧ a ≤ b ∧ b ≤ b0 ∧ Low (ltL L) q a b ∧ Fin (ltL L) q a0 b0 a b ∧ Swp a0 b0 p q ∧ Rt g v (rwN L q N) ∧ Stay (isOf v) h g
 let Fr : Nat → Nat → Nat → Bool → Bool → F → Prop := fun a b lim b1 b2 t => get 0 t = v ∧ get 1 t = .i .i64 (a : Int) ∧ get 2 t = .i .i64 (b : Int) ∧ get 3 t = .i .i64 (lim : Int) ∧ get 4 t = .f 50 [] ∧ get 10 t = .b b1 ∧ get 11 t = .b b2
 have last : ∀ {a b : Nat} {q q' : Nat → Nat} {g g' : H}, Inv a b q g → Swp a b q q' → Srt (ltL L) q' a b → Rt g' v (rwN L q' N) → Stay (isOf v) g g' → ∃ q, Swp a0 b0 p q ∧ Srt (ltL L) q a0 b0 ∧ Rt g' v (rwN L q N) ∧ Stay (isOf v) h g' := fun {a b q q' g g'} ⟨i1, i2, i3, i4, i5, i6, i7, i8⟩ s hs r st =>
   ⟨q', i6.trans (s.wide i1 i3), i5 q' s hs, r, i8.trans st⟩
 have move : ∀ {a b : Nat} {q q' : Nat → Nat} {g g' : H}, Inv a b q g → Swp a b q q' → Rt g' v (rwN L q' N) → Stay (isOf v) g g' → Inv a b q' g' := fun {a b q q' g g'} ⟨i1, i2, i3, i4, i5, i6, i7, i8⟩ s r st =>
   ⟨i1, i2, i3, i4.sw s, fin_sw i5 s, i6.trans (s.wide i1 i3), r, i8.trans st⟩
 -- parted around the pivot, both parts sorted
 have S33 : ∀ (KK : X → F → H → Prop) (t : F) (g : H) (a b lim c : Nat) (b1 b2 : Bool) (q : Nat → Nat), a + 12 < b ∧ lim ≤ 1000 → a ≤ c → c < b → Fr a b lim b1 b2 t → get 12 t = .i .i64 ((b - a : Nat) : Int) → get 13 t = .i .i64 (c : Int) → Inv a b q g →
     (∀ t g a' b' b1 b2 q, b' - a' < b - a → Fr a' b' lim b1 b2 t → Inv a' b' q g → KK .normal t g) → Ok Try.prog 148 s61_33 t g KK := fun KK t g a b lim c b1 b2 q ⟨hl, hlim⟩ hc1 hc2 ⟨f0, f1, f2, f3, f4, f10, f11⟩ f12 f13 ⟨i1, i2, i3, i4, i5, i6, i7, i8⟩ kk => by
   have hfg := i8.fl hf
   repeat' (first
     | refine St.h ?_
     | simp (disch := first | omega | (simp only [lnv]; omega)) only [wlk, ↓get_put', ↓reduceIte, seval, f0, f1, f2, f3, f4, f10, f11, f12, f13]
     | (with_reducible (first | apply cd_split | apply gd_split)) <;> (intro hc; (try simp only [hcn] at hc); (try simp only [hc]); (try simp only [hcl] at hc); try omega))
   refine CL.mk (part_ok i7 hc1 hc2 (by omega) (by omega) hfg) ?_
   rintro _ g2 ⟨m, z, q2, rfl, P, sw, rb2, s2⟩
   have hm1 := P.am
   have hm2 := P.mb
   have low2 := i4.sw sw
   have fin2 := fin_sw i5 sw
   have sw02 := i6.trans (sw.wide i1 i3)
   have st2 := i8.trans s2
   have hf2 := st2.fl hf
   have e1 : (m : Int) - (a : Int) = ((m - a : Nat) : Int) := by omega
   have e2 : (b : Int) - (m : Int) = ((b - m : Nat) : Int) := by omega
   have e3 : ((b - a : Nat) : Int) / 8 = (((b - a) / 8 : Nat) : Int) := by omega
   have e4 : (m : Int) + 1 = ((m + 1 : Nat) : Int) := by omega
   by_cases hlt : m - a < b - m
   · have d1 : (((m - a : Nat) : Int) < ((b - m : Nat) : Int)) = True := eq_true (by omega)
     repeat' (first
       | refine St.h ?_
       | simp (disch := first | omega | (simp only [lnv]; omega)) only [wlk, ↓get_put', ↓reduceIte, seval, f0, f1, f2, f3, f4, f10, f11, f12, f13, e1, e2, e3, d1, Int.toNat_natCast]
       | (with_reducible (first | apply cd_split | apply gd_split)) <;> (intro hc; (try simp only [hcn] at hc); (try simp only [hc]); (try simp only [hcl] at hc); try omega))
     refine CL.mk (ih (p := q2) (a := a) (b := m) (lim := lim) (by omega) hlim rb2 hm1 (by omega) (low_left low2 (by omega)) hf2) ?_
     rintro _ g3 ⟨q3, sw3, hs3, rb3, s3⟩
     have P3 := P.left sw3
     have low3 : Low (ltL L) q3 a b := low2.sw (sw3.wide (Nat.le_refl _) (by omega))
     repeat' (first
       | refine St.h ?_
       | simp (disch := first | omega | (simp only [lnv]; omega)) only [wlk, ↓get_put', ↓reduceIte, seval, f0, f1, f2, f3, f4, f10, f11, f12, f13, e4]
       | (with_reducible (first | apply cd_split | apply gd_split)) <;> (intro hc; (try simp only [hcn] at hc); (try simp only [hc]); (try simp only [hcl] at hc); try omega))
     refine kk _ _ (m + 1) b _ z q3 (by omega) ⟨by simp (disch := first | omega | (simp only [lnv]; omega)) only [wlk, ↓get_put', ↓reduceIte, seval, f0], by simp (disch := first | omega | (simp only [lnv]; omega)) only [wlk, ↓get_put', ↓reduceIte, seval, e4], by simp (disch := first | omega | (simp only [lnv]; omega)) only [wlk, ↓get_put', ↓reduceIte, seval, f2], by simp (disch := first | omega | (simp only [lnv]; omega)) only [wlk, ↓get_put', ↓reduceIte, seval, f3], by simp (disch := first | omega | (simp only [lnv]; omega)) only [wlk, ↓get_put', ↓reduceIte, seval, f4], by simp (disch := first | omega | (simp only [lnv]; omega)) only [wlk, ↓get_put', ↓reduceIte, seval]; rfl, by simp (disch := first | omega | (simp only [lnv]; omega)) only [wlk, ↓get_put', ↓reduceIte, seval]⟩ ⟨by omega, by omega, i3, low_right o low3 P3, fin_right o (fin_sw fin2 (sw3.wide (Nat.le_refl _) (by omega))) P3 hs3, sw02.trans (sw3.wide i1 (by omega)), rb3, st2.trans s3⟩
   · have d1 : (((m - a : Nat) : Int) < ((b - m : Nat) : Int)) = False := eq_false (by omega)
     repeat' (first
       | refine St.h ?_
       | simp (disch := first | omega | (simp only [lnv]; omega)) only [wlk, ↓get_put', ↓reduceIte, seval, f0, f1, f2, f3, f4, f10, f11, f12, f13, e1, e2, e3, e4, d1, Int.toNat_natCast]
       | (with_reducible (first | apply cd_split | apply gd_split)) <;> (intro hc; (try simp only [hcn] at hc); (try simp only [hc]); (try simp only [hcl] at hc); try omega))
     refine CL.mk (ih (p := q2) (a := m + 1) (b := b) (lim := lim) (by omega) hlim rb2 (by omega) (by omega) (low_right o low2 P) hf2) ?_
     rintro _ g3 ⟨q3, sw3, hs3, rb3, s3⟩
     have P3 := P.right sw3
     have low3 : Low (ltL L) q3 a b := low2.sw (sw3.wide (by omega) (Nat.le_refl _))
     repeat' (first
       | refine St.h ?_
       | simp (disch := first | omega | (simp only [lnv]; omega)) only [wlk, ↓get_put', ↓reduceIte, seval, f0, f1, f2, f3, f4, f10, f11, f12, f13]
       | (with_reducible (first | apply cd_split | apply gd_split)) <;> (intro hc; (try simp only [hcn] at hc); (try simp only [hc]); (try simp only [hcl] at hc); try omega))
     refine kk _ _ a m _ z q3 (by omega) ⟨by simp (disch := first | omega | (simp only [lnv]; omega)) only [wlk, ↓get_put', ↓reduceIte, seval, f0], by simp (disch := first | omega | (simp only [lnv]; omega)) only [wlk, ↓get_put', ↓reduceIte, seval, f1], by simp (disch := first | omega | (simp only [lnv]; omega)) only [wlk, ↓get_put', ↓reduceIte, seval], by simp (disch := first | omega | (simp only [lnv]; omega)) only [wlk, ↓get_put', ↓reduceIte, seval, f3], by simp (disch := first | omega | (simp only [lnv]; omega)) only [wlk, ↓get_put', ↓reduceIte, seval, f4], by simp (disch := first | omega | (simp only [lnv]; omega)) only [wlk, ↓get_put', ↓reduceIte, seval]; rfl, by simp (disch := first | omega | (simp only [lnv]; omega)) only [wlk, ↓get_put', ↓reduceIte, seval]⟩ ⟨i1, hm1, by omega, low_left low3 (by omega), fin_left o (fin_sw fin2 (sw3.wide (by omega) (Nat.le_refl _))) P3 hs3, sw02.trans (sw3.wide (by omega) i3), rb3, st2.trans s3⟩
 -- as many as the pivot
 have S34 : ∀ (KK : X → F → H → Prop) (t : F) (g : H) (a b lim c : Nat) (b1 b2 : Bool) (q : Nat → Nat), a + 12 < b ∧ lim ≤ 1000 → a ≤ c → c < b → Fr a b lim b1 b2 t → get 12 t = .i .i64 ((b - a : Nat) : Int) → get 13 t = .i .i64 (c : Int) → Inv a b q g →
     (∀ t g a' b' b1 b2 q, b' - a' < b - a → Fr a' b' lim b1 b2 t → Inv a' b' q g → KK .normal t g) → (∀ t g a' b' b1 b2 q, b' - a' < b - a → Fr a' b' lim b1 b2 t → Inv a' b' q g → KK (.exit 1) t g) → Ok Try.prog 148 s61_34 t g KK := fun KK t g a b lim c b1 b2 q ⟨hl, hlim⟩ hc1 hc2 ⟨f0, f1, f2, f3, f4, f10, f11⟩ f12 f13 hI kk kx => by
   obtain ⟨i1, i2, i3, i4, i5, i6, i7, i8⟩ := hI
   have hfg := i8.fl hf
   have W1 := i7.tbs
   have l1 := ln q
   by_cases ha : a = 0
   · subst ha
     have d1 : ((0 : Int) < ((0 : Nat) : Int)) = False := eq_false (by omega)
     repeat' (first
       | refine S33 _ _ _ 0 b lim c b1 b2 q ⟨hl, hlim⟩ hc1 hc2 ⟨?_, ?_, ?_, ?_, ?_, ?_, ?_⟩ ?_ ?_ ⟨i1, i2, i3, i4, i5, i6, i7, i8⟩ ?_
       | refine St.h ?_
       | simp (disch := first | omega | (simp only [lnv]; omega)) only [wlk, ↓get_put', ↓reduceIte, seval, f0, f1, f2, f3, f4, f10, f11, f12, f13, d1]
       | (with_reducible (first | apply cd_split | apply gd_split)) <;> (intro hc; (try simp only [hcn] at hc); (try simp only [hc]); (try simp only [hcl] at hc); try omega))
     exact kk
   obtain ⟨u, rfl⟩ : ∃ u, a = u + 1 := ⟨a - 1, by omega⟩
   have d1 : ((0 : Int) < ((u + 1 : Nat) : Int)) = True := eq_true (by omega)
   have eu : (((u + 1 : Nat) : Int) - 1).toNat = u := by omega
   have ga := gx q u (by omega)
   have gc := gx q c (by omega)
   repeat' (first
     | refine St.h ?_
     | simp (disch := first | omega | (simp only [lnv]; omega)) only [wlk, ↓get_put', ↓reduceIte, seval, f0, f1, f2, f3, f4, f10, f11, f12, f13, d1, eu, ga, gc, W1.ix, W1.la, Int.toNat_natCast]
     | (with_reducible (first | apply cd_split | apply gd_split)) <;> (intro hc; (try simp only [hcn] at hc); (try simp only [hc]); (try simp only [hcl] at hc); try omega))
   refine CL.stay (byTier_ok (a := L.getD (q u) default) (b := L.getD (q c) default) hfg) fun g2 s2 => ?_
   have rb2 := i7.grow s2
   have st2 := i8.trans (stay_up s2)
   cases hk : ltL L (q u) (q c) with
   | true =>
     have d2 := cmpL_t hk
     repeat' (first
       | refine S33 _ _ _ (u + 1) b lim c b1 b2 q ⟨hl, hlim⟩ hc1 hc2 ⟨?_, ?_, ?_, ?_, ?_, ?_, ?_⟩ ?_ ?_ ⟨i1, i2, i3, i4, i5, i6, rb2, st2⟩ ?_
       | refine St.h ?_
       | simp (disch := first | omega | (simp only [lnv]; omega)) only [wlk, ↓get_put', ↓reduceIte, seval, f0, f1, f2, f3, f4, f10, f11, f12, f13, d2]
       | (with_reducible (first | apply cd_split | apply gd_split)) <;> (intro hc; (try simp only [hcn] at hc); (try simp only [hc]); (try simp only [hcl] at hc); try omega))
     exact kk
   | false =>
     have d2 := cmpL_f hk
     repeat' (first
       | refine St.h ?_
       | simp (disch := first | omega | (simp only [lnv]; omega)) only [wlk, ↓get_put', ↓reduceIte, seval, f0, f1, f2, f3, f4, f10, f11, f12, f13, d2]
       | (with_reducible (first | apply cd_split | apply gd_split)) <;> (intro hc; (try simp only [hcn] at hc); (try simp only [hc]); (try simp only [hcl] at hc); try omega))
     refine CL.mk (parteq_ok rb2 hc1 hc2 (by omega) (by omega) (st2.fl hf)) ?_
     rintro _ g3 ⟨m, q3, rfl, hm1, hm2, sw3, hlo, hhi, rb3, s3⟩
     have ge3 : ∀ k, u + 1 ≤ k → k < b → ltL L (q3 k) (q c) = false := sw3.all (P := fun x => ltL L x (q c) = false) fun k k1 k2 => o.nt (i4 u k (by omega) k1 k2) hk
     have low3 := i4.sw sw3
     have fin3 := fin_sw i5 sw3
     repeat' (first
       | refine St.h ?_
       | simp (disch := first | omega | (simp only [lnv]; omega)) only [wlk, ↓get_put', ↓reduceIte, seval, f0, f1, f2, f3, f4, f10, f11, f12, f13]
       | (with_reducible (first | apply cd_split | apply gd_split)) <;> (intro hc; (try simp only [hcn] at hc); (try simp only [hc]); (try simp only [hcl] at hc); try omega))
     refine kx _ _ m b b1 b2 q3 (by omega) ⟨by simp (disch := first | omega | (simp only [lnv]; omega)) only [wlk, ↓get_put', ↓reduceIte, seval, f0], by simp (disch := first | omega | (simp only [lnv]; omega)) only [wlk, ↓get_put', ↓reduceIte, seval], by simp (disch := first | omega | (simp only [lnv]; omega)) only [wlk, ↓get_put', ↓reduceIte, seval, f2], by simp (disch := first | omega | (simp only [lnv]; omega)) only [wlk, ↓get_put', ↓reduceIte, seval, f3], by simp (disch := first | omega | (simp only [lnv]; omega)) only [wlk, ↓get_put', ↓reduceIte, seval, f4], by simp (disch := first | omega | (simp only [lnv]; omega)) only [wlk, ↓get_put', ↓reduceIte, seval, f10], by simp (disch := first | omega | (simp only [lnv]; omega)) only [wlk, ↓get_put', ↓reduceIte, seval, f11]⟩ ⟨by omega, hm2, i3, low_eq o low3 (by omega) hlo hhi, fin_eq o fin3 (by omega) hm2 ge3 hlo, i6.trans (sw3.wide i1 i3), rb3, st2.trans s3⟩
 -- nearly in order
 have S35 : ∀ (KK : X → F → H → Prop) (t : F) (g : H) (a b lim c : Nat) (z : Int) (b1 b2 : Bool) (q : Nat → Nat), a + 12 < b ∧ lim ≤ 1000 → a ≤ c → c < b → Fr a b lim b1 b2 t → get 12 t = .i .i64 ((b - a : Nat) : Int) → get 13 t = .i .i64 (c : Int) → get 14 t = .i .i64 z → Inv a b q g →
     (∀ t g a' b' b1 b2 q, b' - a' < b - a → Fr a' b' lim b1 b2 t → Inv a' b' q g → KK .normal t g) → (∀ t g a' b' b1 b2 q, b' - a' < b - a → Fr a' b' lim b1 b2 t → Inv a' b' q g → KK (.exit 1) t g) → (∀ t g, (∃ q, Swp a0 b0 p q ∧ Srt (ltL L) q a0 b0 ∧ Rt g v (rwN L q N) ∧ Stay (isOf v) h g) → KK .ret t g) →
     Ok Try.prog 148 s61_35 t g KK := fun KK t g a b lim c z b1 b2 q ⟨hl, hlim⟩ hc1 hc2 ⟨f0, f1, f2, f3, f4, f10, f11⟩ f12 f13 f14 hI kk kx kr => by
   have hI' := hI
   obtain ⟨i1, i2, i3, i4, i5, i6, i7, i8⟩ := hI'
   have hfg := i8.fl hf
   by_cases hall : b1 = true ∧ b2 = true ∧ z = 1
   case pos =>
     obtain ⟨rfl, rfl, rfl⟩ := hall
     repeat' (first
       | refine St.h ?_
       | simp (disch := first | omega | (simp only [lnv]; omega)) only [wlk, ↓get_put', ↓reduceIte, seval, f0, f1, f2, f3, f4, f10, f11, f12, f13, f14]
       | (with_reducible (first | apply cd_split | apply gd_split)) <;> (intro hc; (try simp only [hcn] at hc); (try simp only [hc]); (try simp only [hcl] at hc); try omega))
     refine CL.mk (psort_ok i7 (by omega) (by omega) (by omega) i4 hfg) ?_
     rintro _ g2 ⟨r, q2, rfl, hr, sw2, rb2, s2⟩
     cases r with
     | true =>
       repeat' (first
         | refine St.h ?_
         | simp (disch := first | omega | (simp only [lnv]; omega)) only [wlk, ↓get_put', ↓reduceIte, seval, f0, f1, f2, f3, f4, f10, f11, f12, f13, f14]
         | (with_reducible (first | apply cd_split | apply gd_split)) <;> (intro hc; (try simp only [hcn] at hc); (try simp only [hc]); (try simp only [hcl] at hc); try omega))
       exact kr _ _ (last hI sw2 (hr rfl) rb2 s2)
     | false =>
       repeat' (first
         | refine S34 _ _ _ a b lim c true true q2 ⟨hl, hlim⟩ hc1 hc2 ⟨?_, ?_, ?_, ?_, ?_, ?_, ?_⟩ ?_ ?_ (move hI sw2 rb2 s2) ?_ ?_
         | refine St.h ?_
         | simp (disch := first | omega | (simp only [lnv]; omega)) only [wlk, ↓get_put', ↓reduceIte, seval, f0, f1, f2, f3, f4, f10, f11, f12, f13, f14]
         | (with_reducible (first | apply cd_split | apply gd_split)) <;> (intro hc; (try simp only [hcn] at hc); (try simp only [hc]); (try simp only [hcl] at hc); try omega))
       · exact kk
       · exact kx
   cases b1 with
   | false =>
     repeat' (first
       | refine S34 _ _ _ a b lim c false b2 q ⟨hl, hlim⟩ hc1 hc2 ⟨?_, ?_, ?_, ?_, ?_, ?_, ?_⟩ ?_ ?_ hI ?_ ?_
       | refine St.h ?_
       | simp (disch := first | omega | (simp only [lnv]; omega)) only [wlk, ↓get_put', ↓reduceIte, seval, f0, f1, f2, f3, f4, f10, f11, f12, f13, f14]
       | (with_reducible (first | apply cd_split | apply gd_split)) <;> (intro hc; (try simp only [hcn] at hc); (try simp only [hc]); (try simp only [hcl] at hc); try omega))
     · exact kk
     · exact kx
   | true =>
     cases b2 with
     | false =>
       repeat' (first
         | refine S34 _ _ _ a b lim c true false q ⟨hl, hlim⟩ hc1 hc2 ⟨?_, ?_, ?_, ?_, ?_, ?_, ?_⟩ ?_ ?_ hI ?_ ?_
         | refine St.h ?_
         | simp (disch := first | omega | (simp only [lnv]; omega)) only [wlk, ↓get_put', ↓reduceIte, seval, f0, f1, f2, f3, f4, f10, f11, f12, f13, f14]
         | (with_reducible (first | apply cd_split | apply gd_split)) <;> (intro hc; (try simp only [hcn] at hc); (try simp only [hc]); (try simp only [hcl] at hc); try omega))
       · exact kk
       · exact kx
     | true =>
       have d1 : (z = 1) = False := eq_false fun e => hall ⟨rfl, rfl, e⟩
       repeat' (first
         | refine S34 _ _ _ a b lim c true true q ⟨hl, hlim⟩ hc1 hc2 ⟨?_, ?_, ?_, ?_, ?_, ?_, ?_⟩ ?_ ?_ hI ?_ ?_
         | refine St.h ?_
         | simp (disch := first | omega | (simp only [lnv]; omega)) only [wlk, ↓get_put', ↓reduceIte, seval, f0, f1, f2, f3, f4, f10, f11, f12, f13, f14, d1]
         | (with_reducible (first | apply cd_split | apply gd_split)) <;> (intro hc; (try simp only [hcn] at hc); (try simp only [hc]); (try simp only [hcl] at hc); try omega))
       · exact kk
       · exact kx
 -- the pivot
 have S37 : ∀ (KK : X → F → H → Prop) (t : F) (g : H) (a b lim : Nat) (b1 b2 : Bool) (q : Nat → Nat), a + 12 < b ∧ lim ≤ 1000 → Fr a b lim b1 b2 t → get 12 t = .i .i64 ((b - a : Nat) : Int) → Inv a b q g →
     (∀ t g a' b' b1 b2 q, b' - a' < b - a → Fr a' b' lim b1 b2 t → Inv a' b' q g → KK .normal t g) → (∀ t g a' b' b1 b2 q, b' - a' < b - a → Fr a' b' lim b1 b2 t → Inv a' b' q g → KK (.exit 1) t g) → (∀ t g, (∃ q, Swp a0 b0 p q ∧ Srt (ltL L) q a0 b0 ∧ Rt g v (rwN L q N) ∧ Stay (isOf v) h g) → KK .ret t g) →
     Ok Try.prog 148 s61_37 t g KK := fun KK t g a b lim b1 b2 q ⟨hl, hlim⟩ ⟨f0, f1, f2, f3, f4, f10, f11⟩ f12 hI kk kx kr => by
   have hI' := hI
   obtain ⟨i1, i2, i3, i4, i5, i6, i7, i8⟩ := hI'
   have hfg := i8.fl hf
   repeat' (first
     | refine St.h ?_
     | simp (disch := first | omega | (simp only [lnv]; omega)) only [wlk, ↓get_put', ↓reduceIte, seval, f0, f1, f2, f3, f4, f10, f11, f12]
     | (with_reducible (first | apply cd_split | apply gd_split)) <;> (intro hc; (try simp only [hcn] at hc); (try simp only [hc]); (try simp only [hcl] at hc); try omega))
   refine CL.mk (choose_ok i7 hl (by omega) (by omega) hfg) ?_
   rintro _ g2 ⟨m, z, rfl, hm1, hm2, s2⟩
   have rb2 := i7.grow s2
   have hI2 : Inv a b q g2 := ⟨i1, i2, i3, i4, i5, i6, rb2, i8.trans (stay_up s2)⟩
   by_cases hz : z = 2
   · subst hz
     have e1 : (b : Int) - 1 - ((m : Int) - (a : Int)) = ((b - 1 - (m - a) : Nat) : Int) := by omega
     repeat' (first
       | refine St.h ?_
       | simp (disch := first | omega | (simp only [lnv]; omega)) only [wlk, ↓get_put', ↓reduceIte, seval, f0, f1, f2, f3, f4, f10, f11, f12]
       | (with_reducible (first | apply cd_split | apply gd_split)) <;> (intro hc; (try simp only [hcn] at hc); (try simp only [hc]); (try simp only [hcl] at hc); try omega))
     refine CL.mk (rev_ok rb2 (by omega) i2 (by omega) (s2.fl hfg)) ?_
     rintro _ g3 ⟨q3, sw3, rb3, s3⟩
     repeat' (first
       | refine S35 _ _ _ a b lim (b - 1 - (m - a)) 1 b1 b2 q3 ⟨hl, hlim⟩ (by omega) (by omega) ⟨?_, ?_, ?_, ?_, ?_, ?_, ?_⟩ ?_ ?_ ?_ (move hI2 sw3 rb3 s3) ?_ ?_ ?_
       | refine St.h ?_
       | simp (disch := first | omega | (simp only [lnv]; omega)) only [wlk, ↓get_put', ↓reduceIte, seval, f0, f1, f2, f3, f4, f10, f11, f12, e1]
       | (with_reducible (first | apply cd_split | apply gd_split)) <;> (intro hc; (try simp only [hcn] at hc); (try simp only [hc]); (try simp only [hcl] at hc); try omega))
     · exact kk
     · exact kx
     · exact kr
   · have d1 : (z = 2) = False := eq_false hz
     repeat' (first
       | refine S35 _ _ _ a b lim m z b1 b2 q ⟨hl, hlim⟩ hm1 hm2 ⟨?_, ?_, ?_, ?_, ?_, ?_, ?_⟩ ?_ ?_ ?_ hI2 ?_ ?_ ?_
       | refine St.h ?_
       | simp (disch := first | omega | (simp only [lnv]; omega)) only [wlk, ↓get_put', ↓reduceIte, seval, f0, f1, f2, f3, f4, f10, f11, f12, d1]
       | (with_reducible (first | apply cd_split | apply gd_split)) <;> (intro hc; (try simp only [hcn] at hc); (try simp only [hc]); (try simp only [hcl] at hc); try omega))
     · exact kk
     · exact kx
     · exact kr
 repeat' (first
   | refine St.h ?_
   | simp (disch := first | omega | (simp only [lnv]; omega)) only [wlk, ↓get_put', ↓reduceIte, seval]
   | (with_reducible (first | apply cd_split | apply gd_split)) <;> (intro hc; (try simp only [hcn] at hc); (try simp only [hc]); (try simp only [hcl] at hc); try omega))
 refine Ok.lp (fun m t g => ∃ (a b lim : Nat) (b1 b2 : Bool) (q : Nat → Nat), m = b - a ∧ lim ≤ 1000 ∧ Fr a b lim b1 b2 t ∧ Inv a b q g) (b0 - a0) ?_ ?_
 · refine ⟨a0, b0, lim0, true, true, p, rfl, hlim0, ⟨?_, ?_, ?_, ?_, ?_, ?_, ?_⟩, Nat.le_refl _, hab, Nat.le_refl _, hlow0, fun q _ h => h, .refl _, rb0, ⟨rfl, Nat.le_refl _, fun _ _ _ => rfl⟩⟩
   all_goals first | trivial | rfl | (simp (disch := first | omega | (simp only [lnv]; omega)) only [wlk, ↓get_put', ↓reduceIte, seval]; done)
 rintro I hI m t g ⟨a, b, lim, b1, b2, q, rfl, hlim, hF, hInv⟩
 have hF' := hF
 obtain ⟨f0, f1, f2, f3, f4, f10, f11⟩ := hF'
 have hInv' := hInv
 obtain ⟨i1, i2, i3, i4, i5, i6, i7, i8⟩ := hInv'
 have hfg := i8.fl hf
 have en : (b : Int) - (a : Int) = ((b - a : Nat) : Int) := by omega
 have kn : ∀ (lim : Nat) t g (a' b' : Nat) b1 b2 q, lim ≤ 1000 → b' - a' < b - a → Fr a' b' lim b1 b2 t → Inv a' b' q g → LpG I (b - a) t g := fun lim t g a' b' b1 b2 q hlm hlt hF hV => lp_next hI (b' - a') hlt ⟨a', b', lim, b1, b2, q, rfl, hlm, hF, hV⟩
 have kr : ∀ g, (∃ q, Swp a0 b0 p q ∧ Srt (ltL L) q a0 b0 ∧ Rt g v (rwN L q N) ∧ Stay (isOf v) h g) → Q (.tu []) g := fun g hx => by subst hQ; exact hx
 by_cases hl : a + 12 < b
 case neg =>
   have d1 : (((b - a : Nat) : Int) ≤ 12) = True := eq_true (by omega)
   repeat' (first
     | refine St.h ?_
     | simp (disch := first | omega | (simp only [lnv]; omega)) only [wlk, ↓get_put', ↓reduceIte, seval, f0, f1, f2, f3, f4, f10, f11, en, d1]
     | (with_reducible (first | apply cd_split | apply gd_split)) <;> (intro hc; (try simp only [hcn] at hc); (try simp only [hc]); (try simp only [hcl] at hc); try omega))
   refine CL.mk (isortT_ok i7 (by omega) i2 (by omega) hfg) ?_
   rintro _ g2 ⟨q2, sw2, hs2, rb2, s2⟩
   repeat' (first
     | refine St.h ?_
     | simp (disch := first | omega | (simp only [lnv]; omega)) only [wlk, ↓get_put', ↓reduceIte, seval]
     | (with_reducible (first | apply cd_split | apply gd_split)) <;> (intro hc; (try simp only [hcn] at hc); (try simp only [hc]); (try simp only [hcl] at hc); try omega))
   exact kr _ (last hInv sw2 hs2 rb2 s2)
 have d1 : (((b - a : Nat) : Int) ≤ 12) = False := eq_false (by omega)
 by_cases h0 : lim = 0
 case pos =>
   subst h0
   repeat' (first
     | refine St.h ?_
     | simp (disch := first | omega | (simp only [lnv]; omega)) only [wlk, ↓get_put', ↓reduceIte, seval, f0, f1, f2, f3, f4, f10, f11, en, d1]
     | (with_reducible (first | apply cd_split | apply gd_split)) <;> (intro hc; (try simp only [hcn] at hc); (try simp only [hc]); (try simp only [hcl] at hc); try omega))
   refine CL.mk (heap_ok i7 (by omega) (by omega) (by omega) hfg) ?_
   rintro _ g2 ⟨q2, sw2, hs2, rb2, s2⟩
   repeat' (first
     | refine St.h ?_
     | simp (disch := first | omega | (simp only [lnv]; omega)) only [wlk, ↓get_put', ↓reduceIte, seval]
     | (with_reducible (first | apply cd_split | apply gd_split)) <;> (intro hc; (try simp only [hcn] at hc); (try simp only [hc]); (try simp only [hcl] at hc); try omega))
   exact kr _ (last hInv sw2 hs2 rb2 s2)
 have d2 : ((lim : Int) = 0) = False := eq_false (by omega)
 cases b1 with
 | true =>
   repeat' (first
     | refine S37 _ _ _ a b lim true b2 q ⟨hl, hlim⟩ ⟨?_, ?_, ?_, ?_, ?_, ?_, ?_⟩ ?_ hInv (fun t g a' b' b1 b2 q x1 x2 x3 => ?_) (fun t g a' b' b1 b2 q x1 x2 x3 => ?_) (fun t g x1 => ?_)
     | refine St.h ?_
     | simp (disch := first | omega | (simp only [lnv]; omega)) only [wlk, ↓get_put', ↓reduceIte, seval, f0, f1, f2, f3, f4, f10, f11, en, d1, d2]
     | (with_reducible (first | apply cd_split | apply gd_split)) <;> (intro hc; (try simp only [hcn] at hc); (try simp only [hc]); (try simp only [hcl] at hc); try omega))
   · exact kn _ _ _ _ _ _ _ _ (by omega) x1 x2 x3
   · exact kn _ _ _ _ _ _ _ _ (by omega) x1 x2 x3
   · exact kr _ x1
 | false =>
   have el : (lim : Int) - 1 = ((lim - 1 : Nat) : Int) := by omega
   repeat' (first
     | refine St.h ?_
     | simp (disch := first | omega | (simp only [lnv]; omega)) only [wlk, ↓get_put', ↓reduceIte, seval, f0, f1, f2, f3, f4, f10, f11, en, d1, d2]
     | (with_reducible (first | apply cd_split | apply gd_split)) <;> (intro hc; (try simp only [hcn] at hc); (try simp only [hc]); (try simp only [hcl] at hc); try omega))
   refine CL.mk (break_ok i7 hl (by omega) hN hfg) ?_
   rintro _ g2 ⟨q2, sw2, rb2, s2⟩
   repeat' (first
     | refine S37 _ _ _ a b (lim - 1) false b2 q2 ⟨hl, by omega⟩ ⟨?_, ?_, ?_, ?_, ?_, ?_, ?_⟩ ?_ (move hInv sw2 rb2 s2) (fun t g a' b' b1 b2 q x1 x2 x3 => ?_) (fun t g a' b' b1 b2 q x1 x2 x3 => ?_) (fun t g x1 => ?_)
     | refine St.h ?_
     | simp (disch := first | omega | (simp only [lnv]; omega)) only [wlk, ↓get_put', ↓reduceIte, seval, f0, f1, f2, f3, f4, f10, f11, en, d1, d2, el]
     | (with_reducible (first | apply cd_split | apply gd_split)) <;> (intro hc; (try simp only [hcn] at hc); (try simp only [hc]); (try simp only [hcl] at hc); try omega))
   · exact kn _ _ _ _ _ _ _ _ (by omega) x1 x2 x3
   · exact kn _ _ _ _ _ _ _ _ (by omega) x1 x2 x3
   · exact kr _ x1
theorem pd_all (hN : N ≤ 200) : ∀ K, PdOk L N K
 | 0 => fun hK => absurd hK (Nat.not_lt_zero _)
 | K + 1 => pd_step hN (pd_all hN K)
theorem sortT_ok {h : H} {v : V} (rb : Rt h v L) (hN : L.length ≤ 200) (hf : B.val h.floor ≤ B.val h.next) : FnOk Try.prog 49 [v, .f 50 []] h fun y h' =>
   ∃ M : List Tbl, M.Perm L ∧ (∀ i j, i < j → j < M.length → ltT (M.getD j default) (M.getD i default) = false) ∧ Rt h' v M ∧ Stay (isOf v) h h' := by
 have hv := rb.tbs
 have rid : Rt h v (rwN L (fun i => i) L.length) := by rw [rwN_id]; exact rb
 refine fn_go c49 (by intro hb; cases hb) (by simp) (by simp) fun Q hQ => ?_
 simp only [slotsF, Nat.reduceAdd]
 repeat' (first
   | refine St.h ?_
   | simp (disch := first | omega | (simp only [lnv]; omega)) only [wlk, ↓get_put', ↓reduceIte, seval, hv.ln, Int.toNat_natCast]
   | (with_reducible (first | apply cd_split | apply gd_split)) <;> (intro hc; (try simp only [hcn] at hc); (try simp only [hc]); (try simp only [hcl] at hc); try omega))
 refine CL.pure (lenP_ok (n := L.length) (by omega)) ?_
 repeat' (first
   | refine St.h ?_
   | simp (disch := first | omega | (simp only [lnv]; omega)) only [wlk, ↓get_put', ↓reduceIte, seval]
   | (with_reducible (first | apply cd_split | apply gd_split)) <;> (intro hc; (try simp only [hcn] at hc); (try simp only [hc]); (try simp only [hcl] at hc); try omega))
 refine CL.mk (pd_all hN (L.length + 1) (p := fun i => i) (a := 0) (b := L.length) (lim := bitsP L.length) (by omega) (by have := bitsP_le L.length (by omega); omega) rid (Nat.zero_le _) (Nat.le_refl _) (fun i j h1 => by omega) hf) ?_
 rintro _ g2 ⟨q, sw, hs, rb2, s2⟩
 repeat' (first
   | refine St.h ?_
   | simp (disch := first | omega | (simp only [lnv]; omega)) only [wlk, ↓get_put', ↓reduceIte, seval]
   | (with_reducible (first | apply cd_split | apply gd_split)) <;> (intro hc; (try simp only [hcn] at hc); (try simp only [hc]); (try simp only [hcl] at hc); try omega))
 subst hQ
 refine ⟨rwN L q L.length, ?_, fun i j h1 h2 => ?_, rb2, s2⟩
 · have := sw.perm (L := L) (Nat.le_refl L.length)
   rwa [rwN_id] at this
 · rw [rwN_len] at h2
   rw [rwN_getD h2, rwN_getD (by omega)]
   exact hs i j (Nat.zero_le _) h1 h2
end
end Go.Proofs.Ytclpemggclmgeaa

set_option linter.all false
namespace Go.Ev
open Go
structure Edt where
 gone : List Int
 come : List Tbl
 log : Int
 seq : Int
instance : Inhabited Edt := ⟨⟨[], [], 0, 0⟩⟩
structure Sht where
 L : List Tbl
 log : Int
 seq : Int
 next : Int
def shtZ : Sht := ⟨[], 1, 0, 1⟩
def isTb (t : Tbl) : Bool := decide (1 ≤ t.id ∧ t.id ≤ 1000000 ∧ (t.tier = 0 ∨ t.tier = 1) ∧ (1 ≤ t.fst.length ∧ t.fst.length ≤ 13) ∧ (1 ≤ t.lst.length ∧ t.lst.length ≤ 13) ∧ Op.bytesLess t.lst t.fst = false ∧ 1 ≤ t.cnt)
theorem isTb_iff {t : Tbl} : isTb t = true ↔ (1 ≤ t.id ∧ t.id ≤ 1000000 ∧ (t.tier = 0 ∨ t.tier = 1) ∧ (1 ≤ t.fst.length ∧ t.fst.length ≤ 13) ∧ (1 ≤ t.lst.length ∧ t.lst.length ≤ 13) ∧ Op.bytesLess t.lst t.fst = false ∧ 1 ≤ t.cnt) := by unfold isTb; exact decide_eq_true_iff
theorem le_b {a b : List UInt8} : (Op.bytesLess a b || decide (a = b)) = !Op.bytesLess b a := by
 by_cases e : a = b
 · rw [e, bl_irr]; simp
 · rw [decide_eq_false e, Bool.or_false]
   rcases bl_total e with h | h
   · rw [h, bl_asym h]; rfl
   · rw [h, bl_asym h]; rfl
def upT (L : List Tbl) (i : Nat) : Bool := isTb (L.getD i default) && (decide (i = 0) || decide ((L.getD (i - 1) default).id < (L.getD i default).id))
def upsT (L : List Tbl) (i : Nat) : Bool := (List.range i).all (upT L)
theorem upsT_succ (L : List Tbl) (i : Nat) : upsT L (i + 1) = (upsT L i && upT L i) := by unfold upsT; rw [List.range_succ, List.all_append]; simp
theorem upsT_at {L : List Tbl} {i : Nat} (h : upsT L i = true) {j : Nat} (hj : j < i) : upT L j = true := (List.all_eq_true.1 h) j (List.mem_range.2 hj)
theorem upsT_no {L : List Tbl} {i n : Nat} (hi : i < n) (h : upT L i = false) : upsT L n = false := List.all_eq_false.2 ⟨i, List.mem_range.2 hi, by rw [h]; simp⟩
def isEd (e : Edt) : Bool := decide (e.gone.length ≤ 40) && decide (e.come.length ≤ 40) && upsT e.come e.come.length && decide (0 ≤ e.log ∧ e.log ≤ 1000000) && decide (0 ≤ e.seq ∧ e.seq ≤ 1000000)
structure IsE (e : Edt) : Prop where
 g40 : e.gone.length ≤ 40
 c40 : e.come.length ≤ 40
 up : upsT e.come e.come.length = true
 l0 : 0 ≤ e.log
 l1 : e.log ≤ 1000000
 s0 : 0 ≤ e.seq
 s1 : e.seq ≤ 1000000
theorem isEd_iff {e : Edt} : isEd e = true ↔ IsE e := by
 unfold isEd
 simp only [Bool.and_eq_true, decide_eq_true_eq]
 exact ⟨fun ⟨⟨⟨⟨a, b⟩, c⟩, d⟩, f⟩ => ⟨a, b, c, d.1, d.2, f.1, f.2⟩, fun h => ⟨⟨⟨⟨h.g40, h.c40⟩, h.up⟩, h.l0, h.l1⟩, h.s0, h.s1⟩⟩
theorem getD_in {α : Type} [Inhabited α] {L : List α} {i : Nat} (h : i < L.length) : L.getD i default ∈ L := by
 rw [List.getD_eq_getElem?_getD, List.getElem?_eq_getElem h]; exact List.getElem_mem h
theorem in_getD {α : Type} [Inhabited α] {L : List α} {x : α} (h : x ∈ L) : ∃ i, i < L.length ∧ L.getD i default = x := by
 obtain ⟨i, hi, e⟩ := List.mem_iff_getElem.1 h
 exact ⟨i, hi, by rw [List.getD_eq_getElem?_getD, List.getElem?_eq_getElem hi]; exact e⟩
theorem IsE.tb {e : Edt} (h : IsE e) : ∀ t ∈ e.come, isTb t = true := fun t ht => by
 obtain ⟨i, hi, rfl⟩ := in_getD ht
 have := upsT_at h.up hi
 unfold upT at this; rw [Bool.and_eq_true] at this; exact this.1
theorem IsE.lt {e : Edt} (h : IsE e) : ∀ j i, i < j → j < e.come.length → (e.come.getD i default).id < (e.come.getD j default).id := by
 intro j
 induction j with
 | zero => intro i hi; omega
 | succ j ih =>
   intro i hi hj
   have := upsT_at h.up hj
   unfold upT at this
   rw [Bool.and_eq_true, Bool.or_eq_true] at this
   have h2 : (e.come.getD j default).id < (e.come.getD (j + 1) default).id := by
     rcases this.2 with h | h
     · simp at h
     · simpa using h
   by_cases e1 : i = j
   · rw [e1]; exact h2
   · have := ih i (by omega) (by omega); omega
def meetT (a b : Tbl) : Bool := decide (a.tier = 1 ∧ b.tier = 1 ∧ Op.bytesLess b.lst a.fst = false ∧ Op.bytesLess a.lst b.fst = false)
theorem meetT_symm {a b : Tbl} : meetT a b = meetT b a := by
 unfold meetT
 apply decide_eq_decide.2
 exact ⟨fun ⟨a, b, c, d⟩ => ⟨b, a, d, c⟩, fun ⟨a, b, c, d⟩ => ⟨b, a, d, c⟩⟩
def NoMeet (L : List Tbl) : Prop := L.Pairwise fun a b => meetT a b = false
theorem NoMeet.perm {L M : List Tbl} (p : L.Perm M) : NoMeet L ↔ NoMeet M := p.pairwise_iff fun h => by rw [meetT_symm]; exact h
def Asc (L : List Tbl) : Prop := L.Pairwise fun a b => ltT a b = true
theorem asc_eq : ∀ {L M : List Tbl}, Asc L → Asc M → L.Perm M → L = M
 | [], M, _, _, p => (List.Perm.nil_eq p)
 | a :: L, [], _, _, p => absurd p.length_eq (by simp)
 | a :: L, b :: M, hL, hM, p => by
   have hL' := List.pairwise_cons.1 hL
   have hM' := List.pairwise_cons.1 hM
   have e : a = b := by
     rcases List.mem_cons.1 (p.mem_iff.1 (List.mem_cons_self)) with h | h
     · exact h
     · rcases List.mem_cons.1 (p.mem_iff.2 (List.mem_cons_self)) with h2 | h2
       · exact h2.symm
       · have h3 := hM'.1 a h
         have h4 := hL'.1 b h2
         rw [ltT_asym h3] at h4; cases h4
   subst e
   rw [asc_eq hL'.2 hM'.2 (List.Perm.cons_inv p)]
def goneB (g : List Int) (id : Int) : Bool := g.any fun x => decide (x = id)
def leftT (L : List Tbl) (g : List Int) : List Tbl := L.filter fun t => !goneB g t.id
def hasT (L : List Tbl) (g : List Int) : Bool := g.all fun id => L.any fun t => decide (t.id = id)
def pastT (S : Sht) (e : Edt) : Bool := (decide (0 < e.come.length) && decide ((e.come.getD 0 default).id < S.next)) || (decide (0 < e.log) && decide (e.log < S.log)) || (decide (0 < e.seq) && decide (e.seq < S.seq))
def putT : List Tbl → Tbl → List Tbl
 | [], t => [t]
 | u :: L, t => if ltT t u then t :: u :: L else u :: putT L t
def comeT : List Tbl → List Tbl → Option (List Tbl)
 | L, [] => some L
 | L, t :: C => if L.any (fun u => meetT u t) then none else comeT (putT L t) C
def newS (S : Sht) (e : Edt) (M : List Tbl) : Sht := ⟨M, max S.log e.log, max S.seq e.seq, if 0 < e.come.length then (e.come.getD (e.come.length - 1) default).id + 1 else S.next⟩
def doS (S : Sht) (e : Edt) : Int × Sht :=
 if isEd e = false then (10, S) else if hasT S.L e.gone = false then (18, S) else if pastT S e = true then (16, S) else
 match comeT (leftT S.L e.gone) e.come with
 | none => (16, S)
 | some M => if 40 < M.length then (25, S) else (0, newS S e M)
structure Wf (S : Sht) : Prop where
 tb : ∀ t ∈ S.L, isTb t = true
 asc : Asc S.L
 nm : NoMeet S.L
 nx : ∀ t ∈ S.L, t.id < S.next
 n1 : 1 ≤ S.next ∧ S.next ≤ 1000001
 lg : 0 ≤ S.log ∧ S.log ≤ 1000000
 sq : 0 ≤ S.seq ∧ S.seq ≤ 1000000
 len : S.L.length ≤ 40
theorem wfZ : Wf shtZ := ⟨(fun t h => by cases h), List.Pairwise.nil, List.Pairwise.nil, (fun t h => by cases h), by decide, by decide, by decide, by decide⟩
theorem put_perm : ∀ (L : List Tbl) (t : Tbl), (putT L t).Perm (t :: L)
 | [], t => List.Perm.refl _
 | u :: L, t => by
   unfold putT
   split
   · exact List.Perm.refl _
   · exact ((put_perm L t).cons u).trans (List.Perm.swap t u L)
theorem put_asc : ∀ {L : List Tbl} {t : Tbl}, Asc L → (∀ u ∈ L, ltT t u = true ∨ ltT u t = true) → Asc (putT L t)
 | [], t, _, _ => List.pairwise_singleton _ _
 | u :: L, t, h, ht => by
   have h' := List.pairwise_cons.1 h
   unfold putT
   split
   · rename_i hb
     refine List.pairwise_cons.2 ⟨fun x hx => ?_, h⟩
     rcases List.mem_cons.1 hx with rfl | hx
     · exact hb
     · have h1 := h'.1 x hx
       cases h2 : ltT t x with
       | true => rfl
       | false =>
         rcases ht x (List.mem_cons_of_mem _ hx) with h3 | h3
         · rw [h3] at h2; cases h2
         · have := ltT_nt (ltT_asym hb) (ltT_asym h3)
           rw [h1] at this; cases this
   · rename_i hb
     refine List.pairwise_cons.2 ⟨fun x hx => ?_, put_asc h'.2 fun v hv => ht v (List.mem_cons_of_mem _ hv)⟩
     rcases List.mem_cons.1 ((put_perm L t).mem_iff.1 hx) with rfl | hx
     · rcases ht u List.mem_cons_self with h3 | h3
       · exact absurd h3 hb
       · exact h3
     · exact h'.1 x hx
theorem lt_or {a b : Tbl} (ha : isTb a = true) (hb : isTb b = true) (hn : meetT a b = false) (hi : a.id ≠ b.id) : ltT a b = true ∨ ltT b a = true := by
 have ha := isTb_iff.1 ha
 have hb := isTb_iff.1 hb
 unfold ltT
 by_cases e : a.tier = b.tier
 · rw [if_pos e, if_pos e.symm]
   by_cases e0 : a.tier = 0
   · rw [if_pos e0, if_pos (by omega)]; simp; omega
   · rw [if_neg e0, if_neg (by omega)]
     by_cases ef : a.fst = b.fst
     · exfalso
       unfold meetT at hn
       have h1 := ha.2.2.2.2.2.1
       have h2 := hb.2.2.2.2.2.1
       rw [decide_eq_false_iff_not] at hn
       exact hn ⟨by omega, by omega, by rw [ef]; exact h2, by rw [← ef]; exact h1⟩
     · exact bl_total ef
 · rw [if_neg e, if_neg (Ne.symm e)]; simp; omega
theorem left_sub {L : List Tbl} {g : List Int} {t : Tbl} (h : t ∈ leftT L g) : t ∈ L := (List.mem_filter.1 h).1
theorem come_ok : ∀ {C L : List Tbl}, Asc L → NoMeet L → (∀ t ∈ L, isTb t = true) → (∀ t ∈ C, isTb t = true) → (∀ t ∈ L, ∀ u ∈ C, t.id ≠ u.id) → (C.Pairwise fun a b => a.id ≠ b.id) →
   (comeT L C = none ∧ ¬ NoMeet (L ++ C)) ∨ ∃ M, comeT L C = some M ∧ M.Perm (L ++ C) ∧ Asc M ∧ NoMeet M
 | [], L, ha, hn, _, _, _, _ => .inr ⟨L, rfl, by rw [List.append_nil], ha, hn⟩
 | t :: C, L, ha, hn, hL, hC, hd, hc => by
   have hc' := List.pairwise_cons.1 hc
   unfold comeT
   cases hm : L.any (fun u => meetT u t) with
   | true =>
     left
     refine ⟨by rw [if_pos rfl], fun h => ?_⟩
     obtain ⟨u, hu, hut⟩ := List.any_eq_true.1 hm
     have := (List.pairwise_append.1 h).2.2 u hu t List.mem_cons_self
     rw [hut] at this; cases this
   | false =>
     rw [if_neg (by simp)]
     have hmt : ∀ u ∈ L, meetT u t = false := fun u hu => by
       have := List.any_eq_false.1 hm u hu
       simpa using this
     have hp := put_perm L t
     have hmem : ∀ x, x ∈ putT L t ↔ x = t ∨ x ∈ L := fun x => by rw [hp.mem_iff, List.mem_cons]
     have hpp : (putT L t ++ C).Perm (L ++ t :: C) := (hp.append_right C).trans (List.perm_middle).symm
     have ih := come_ok (C := C) (L := putT L t) (put_asc ha fun u hu => (lt_or (hC t List.mem_cons_self) (hL u hu) (by rw [meetT_symm]; exact hmt u hu) fun e => hd u hu t List.mem_cons_self e.symm))
       ((NoMeet.perm hp).2 (List.pairwise_cons.2 ⟨fun u hu => by rw [meetT_symm]; exact hmt u hu, hn⟩))
       (fun x hx => by rcases (hmem x).1 hx with rfl | h; exact hC _ List.mem_cons_self; exact hL x h)
       (fun x hx => hC x (List.mem_cons_of_mem _ hx))
       (fun x hx u hu => by rcases (hmem x).1 hx with rfl | h; exact hc'.1 u hu; exact hd x h u (List.mem_cons_of_mem _ hu)) hc'.2
     rcases ih with ⟨h1, h2⟩ | ⟨M, h1, h2, h3, h4⟩
     · exact .inl ⟨h1, fun h => h2 ((NoMeet.perm hpp).2 h)⟩
     · exact .inr ⟨M, h1, h2.trans hpp, h3, h4⟩
def adjM (M : List Tbl) (i : Nat) : Bool := decide (0 < i) && (decide ((M.getD (i - 1) default).tier = 1) && !Op.bytesLess (M.getD (i - 1) default).lst (M.getD i default).fst)
def meetsB (M : List Tbl) : Bool := (List.range M.length).any (adjM M)
theorem lt_tier {a b : Tbl} (h : ltT b a = false) : a.tier ≤ b.tier := by
 unfold ltT at h
 by_cases e : b.tier = a.tier
 · omega
 · rw [if_neg e] at h; simp at h; exact h
theorem meets_iff {M : List Tbl} (hs : ∀ i j, i < j → j < M.length → ltT (M.getD j default) (M.getD i default) = false) (ht : ∀ t ∈ M, isTb t = true) : meetsB M = false ↔ NoMeet M := by
 have tb : ∀ i, i < M.length → (1 ≤ (M.getD i default).id ∧ (M.getD i default).id ≤ 1000000 ∧ ((M.getD i default).tier = 0 ∨ (M.getD i default).tier = 1) ∧ _) := fun i hi => isTb_iff.1 (ht _ (getD_in hi))
 constructor
 · intro h
   refine List.pairwise_iff_getElem.2 fun i j hi hj hij => ?_
   have gi : M[i] = M.getD i default := by rw [List.getD_eq_getElem?_getD, List.getElem?_eq_getElem hi]; rfl
   have gj : M[j] = M.getD j default := by rw [List.getD_eq_getElem?_getD, List.getElem?_eq_getElem hj]; rfl
   rw [gi, gj]
   cases hm : meetT (M.getD i default) (M.getD j default) with
   | false => rfl
   | true =>
     exfalso
     obtain ⟨m1, m2, m3, m4⟩ := of_decide_eq_true hm
     have h1 : adjM M (i + 1) = true := by
       unfold adjM
       have ti : (M.getD (i + 1) default).tier = 1 := by
         have := lt_tier (hs i (i + 1) (by omega) (by omega))
         have := (tb (i + 1) (by omega)).2.2.1
         omega
       have hf : Op.bytesLess (M.getD j default).fst (M.getD (i + 1) default).fst = false := by
         by_cases e : j = i + 1
         · rw [e]; exact bl_irr _
         · have := hs (i + 1) j (by omega) hj
           unfold ltT at this
           rw [if_pos (by omega), if_neg (by omega)] at this
           exact this
       rw [Nat.add_sub_cancel, decide_eq_true (Nat.succ_pos i), decide_eq_true m1, bl_nt m4 hf]; rfl
     have := List.any_eq_false.1 h (i + 1) (List.mem_range.2 (by omega))
     exact this h1
 · intro h
   cases hm : meetsB M with
   | false => rfl
   | true =>
     exfalso
     obtain ⟨j, hj, ha⟩ := List.any_eq_true.1 hm
     have hj := List.mem_range.1 hj
     unfold adjM at ha
     simp only [Bool.and_eq_true, decide_eq_true_eq, Bool.not_eq_true'] at ha
     obtain ⟨h0, h1, h2⟩ := ha
     have h3 := List.pairwise_iff_getElem.1 h (j - 1) j (by omega) hj (by omega)
     have gi : M[j - 1] = M.getD (j - 1) default := by rw [List.getD_eq_getElem?_getD, List.getElem?_eq_getElem (by omega)]; rfl
     have gj : M[j] = M.getD j default := by rw [List.getD_eq_getElem?_getD, List.getElem?_eq_getElem hj]; rfl
     rw [gi, gj] at h3
     have hlt := hs (j - 1) j (by omega) hj
     have t1 := lt_tier hlt
     have tj := (tb j hj).2.2.1
     have hff : Op.bytesLess (M.getD j default).fst (M.getD (j - 1) default).fst = false := by
       unfold ltT at hlt
       rw [if_pos (by omega), if_neg (by omega)] at hlt
       exact hlt
     have hl := (isTb_iff.1 (ht _ (getD_in hj))).2.2.2.2.2.1
     unfold meetT at h3
     rw [decide_eq_false_iff_not] at h3
     exact h3 ⟨h1, by omega, bl_nt hl hff, h2⟩
theorem come_ids {S : Sht} {e : Edt} (w : Wf S) (he : IsE e) (hp : pastT S e = false) : (∀ t ∈ leftT S.L e.gone, ∀ u ∈ e.come, t.id ≠ u.id) ∧ (e.come.Pairwise fun a b => a.id ≠ b.id) ∧ ∀ u ∈ e.come, S.next ≤ u.id := by
 have h0 : ∀ u ∈ e.come, S.next ≤ u.id := fun u hu => by
   obtain ⟨i, hi, rfl⟩ := in_getD hu
   unfold pastT at hp
   simp only [Bool.or_eq_false_iff, Bool.and_eq_false_iff, decide_eq_false_iff_not] at hp
   have h1 : S.next ≤ (e.come.getD 0 default).id := by
     rcases hp.1.1 with h | h
     · omega
     · omega
   by_cases e1 : i = 0
   · rw [e1]; exact h1
   · have := he.lt i 0 (by omega) hi; omega
 refine ⟨fun t ht u hu e1 => ?_, List.pairwise_iff_getElem.2 fun i j hi hj hij => ?_, h0⟩
 · have := w.nx t (left_sub ht)
   have := h0 u hu; omega
 · have := he.lt j i hij hj
   rw [List.getD_eq_getElem?_getD, List.getElem?_eq_getElem hi, List.getD_eq_getElem?_getD, List.getElem?_eq_getElem hj] at this
   exact Int.ne_of_lt this
theorem wf_left {S : Sht} (w : Wf S) (g : List Int) : Asc (leftT S.L g) ∧ NoMeet (leftT S.L g) ∧ ∀ t ∈ leftT S.L g, isTb t = true := ⟨w.asc.filter _, w.nm.filter _, fun t ht => w.tb t (left_sub ht)⟩
theorem do_eq {S : Sht} {e : Edt} (w : Wf S) (he : IsE e) (hp : pastT S e = false) {M : List Tbl} (pm : M.Perm (leftT S.L e.gone ++ e.come)) (hs : ∀ i j, i < j → j < M.length → ltT (M.getD j default) (M.getD i default) = false) :
   (meetsB M = true ∧ comeT (leftT S.L e.gone) e.come = none) ∨ (meetsB M = false ∧ comeT (leftT S.L e.gone) e.come = some M) := by
 obtain ⟨i1, i2, i3⟩ := come_ids w he hp
 obtain ⟨l1, l2, l3⟩ := wf_left w e.gone
 have tM : ∀ t ∈ M, isTb t = true := fun t ht => by
   rcases List.mem_append.1 (pm.mem_iff.1 ht) with h | h
   · exact l3 t h
   · exact he.tb t h
 have hm := meets_iff hs tM
 rcases come_ok l1 l2 l3 he.tb i1 i2 with ⟨h1, h2⟩ | ⟨M', h1, h2, h3, h4⟩
 · left
   refine ⟨?_, h1⟩
   cases hb : meetsB M with
   | true => rfl
   | false => exact absurd ((NoMeet.perm pm).1 (hm.1 hb)) h2
 · right
   have hMM : M.Perm M' := pm.trans h2.symm
   have nmM : NoMeet M := (NoMeet.perm hMM).2 h4
   have e1 : M = M' := by
     refine asc_eq (List.pairwise_iff_getElem.2 fun i j hi hj hij => ?_) h3 hMM
     -- of two that are in order and don't meet the first one is less
     have n1 := List.pairwise_iff_getElem.1 nmM i j hi hj hij
     have gi : M[i] = M.getD i default := by rw [List.getD_eq_getElem?_getD, List.getElem?_eq_getElem hi]; rfl
     have gj : M[j] = M.getD j default := by rw [List.getD_eq_getElem?_getD, List.getElem?_eq_getElem hj]; rfl
     have idn : (M'.Pairwise fun a b => ltT a b = true ∨ ltT b a = true) := h3.imp fun h => .inl h
     have idM := (hMM.pairwise_iff (R := fun a b => ltT a b = true ∨ ltT b a = true) fun h => h.symm).2 idn
     have o := List.pairwise_iff_getElem.1 idM i j hi hj hij
     rcases o with o | o
     · exact o
     · have := hs i j hij hj
       rw [gi, gj] at o
       rw [o] at this; cases this
   rw [e1]
   exact ⟨by rw [← e1]; exact hm.2 nmM, h1⟩
theorem do_wf {S : Sht} {e : Edt} (w : Wf S) : Wf (doS S e).2 := by
 unfold doS
 by_cases h1 : isEd e = false
 · rw [if_pos h1]; exact w
 rw [if_neg h1]
 by_cases h2 : hasT S.L e.gone = false
 · rw [if_pos h2]; exact w
 rw [if_neg h2]
 by_cases h3 : pastT S e = true
 · rw [if_pos h3]; exact w
 rw [if_neg h3]
 have he := isEd_iff.1 (by simpa using h1)
 have hp : pastT S e = false := by simpa using h3
 obtain ⟨i1, i2, i3⟩ := come_ids w he hp
 obtain ⟨l1, l2, l3⟩ := wf_left w e.gone
 rcases come_ok l1 l2 l3 he.tb i1 i2 with ⟨h4, _⟩ | ⟨M, h4, h5, h6, h7⟩
 · rw [h4]; exact w
 · rw [h4]
   by_cases h8 : 40 < M.length
   · show Wf (if 40 < M.length then _ else _ : Int × Sht).2; rw [if_pos h8]; exact w
   · show Wf (if 40 < M.length then _ else _ : Int × Sht).2
     rw [if_neg h8]
     have hmem : ∀ t ∈ M, t ∈ leftT S.L e.gone ∨ t ∈ e.come := fun t ht => List.mem_append.1 (h5.mem_iff.1 ht)
     have hn := w.n1
     refine ⟨fun t ht => ?_, h6, h7, fun t ht => ?_, ?_, ?_, ?_, by show M.length ≤ 40; omega⟩
     · rcases hmem t ht with h | h
       · exact l3 t h
       · exact he.tb t h
     · show t.id < (if 0 < e.come.length then _ else S.next)
       by_cases hc : 0 < e.come.length
       · rw [if_pos hc]
         have hlast := getD_in (L := e.come) (i := e.come.length - 1) (by omega)
         rcases hmem t ht with h | h
         · have := w.nx t (left_sub h)
           have := i3 _ hlast; omega
         · obtain ⟨i, hi, rfl⟩ := in_getD h
           by_cases e1 : i = e.come.length - 1
           · rw [e1]; omega
           · have := he.lt (e.come.length - 1) i (by omega) (by omega); omega
       · rw [if_neg hc]
         rcases hmem t ht with h | h
         · exact w.nx t (left_sub h)
         · have := List.length_pos_of_mem h; omega
     · show 1 ≤ (if 0 < e.come.length then _ else S.next) ∧ (if 0 < e.come.length then _ else S.next) ≤ 1000001
       by_cases hc : 0 < e.come.length
       · rw [if_pos hc]
         have := isTb_iff.1 (he.tb _ (getD_in (L := e.come) (i := e.come.length - 1) (by omega)))
         omega
       · rw [if_neg hc]; exact hn
     · show 0 ≤ max S.log e.log ∧ max S.log e.log ≤ 1000000
       have := w.lg; have := he.l0; have := he.l1; omega
     · show 0 ≤ max S.seq e.seq ∧ max S.seq e.seq ≤ 1000000
       have := w.sq; have := he.s0; have := he.s1; omega
end Go.Ev

set_option linter.all false
namespace Go.Ev
open Go
theorem CPS.own {P : Program} {h : H} {N : Nx} {id : B} {el fin : Nat} {xs : List V} {s : List UInt8} {cap : Option Nat} (o : OwnE h id el xs) (hne : 1 ≤ s.length) (hj : s.length ≤ fin) (hfit : s.length < 2 ^ 37)
   (k : ∀ h', OwnE h' id el (s.map bv) → Stay (fun i => i = id) h h' → N.go P (.i .i64 (s.length : Int)) h') : CPS P (.l id 0 0 s.length fin cap) (sv s) h N := by
 obtain ⟨blk, a1, a2, a3, a4, aE, a5, a6, a7⟩ := o
 obtain ⟨next, floor, heap⟩ := h
 obtain ⟨cur, min, sz, cs, bel, fr⟩ := blk
 simp only at a2 a3 a4 aE a7
 subst a2; subst a3; subst a4; subst aE
 have hvl : (s.map bv).length = s.length := List.length_map _
 obtain ⟨tr, t1, t2, t3⟩ := setList_fine (s.map bv) 0 cs (by omega)
 obtain ⟨hp, s1, s2, s3⟩ := setK_ok id (⟨0, 0, sz, tr, bel, 0⟩ : Blk) heap
 have e1 : B.geB floor id = true := by cases floor <;> first | rfl | (show Nat.ble _ _ = true; rw [Nat.ble_eq]; exact a5)
 have e2 : Nat.ble (Nat.add 0 (s.map bv).length) fin = true := by rw [Nat.ble_eq]; show 0 + (s.map bv).length ≤ fin; omega
 have e4 : frOk 0 0 = true := rfl
 have e5 : Nat.beq 0 0 = true := rfl
 have e6 : Nat.ble 0 0 = true := rfl
 have a1' : heap.get id = some ⟨0, 0, sz, cs, bel, 0⟩ := a1
 refine hm_of (v := .i .i64 (s.length : Int)) (h' := ⟨next, floor, hp⟩) (fun q => ?_) (k _ ⟨_, s2, rfl, rfl, rfl, rfl, a5, a6, fun i z hz => by have := t2 i z hz; rwa [Nat.zero_add] at this⟩ ⟨rfl, Nat.le_refl _, fun i _ hi => s3 i hi⟩)
 show natC s.length (fun _ => false) (fun _ => copyToS (sv s) ⟨next, floor, heap⟩ q id 0 0 s.length fin) = _
 obtain ⟨m, hm⟩ : ∃ m, s.length = m + 1 := ⟨s.length - 1, by omega⟩
 have hc : ∀ (z : Unit → Bool) (f : Nat → Bool), natC s.length z f = f (m + 1) := fun z f => by rw [hm]; rfl
 rw [hc]
 unfold copyToS
 show unpK s.length (pk s) [] (fun vs => ifK (Nat.beq s.length s.length) fun _ => store ⟨next, floor, heap⟩ id 0 0 fin vs fun h => q (.i .i64 (.ofNat s.length)) h) = _
 rw [unpK_map _ _ _ _ rfl, List.append_nil, Nat.beq_refl, ifK_true]
 simp only [store, hK_mk, a1', optK_some, blkK_mk, e5, e6, e1, e2, allOne_bv, e4, ifK_true]
 rw [t1, s1]; rfl
theorem US.own {P : Program} {h : H} {N : Nx} {id : B} {el fin : Nat} {a : List UInt8} (o : OwnE h id el (a.map bv)) (hne : 1 ≤ a.length) (hj : a.length ≤ fin) (hl : a.length ≤ 1048576)
   (k : ∀ h', Stay (fun i => i = id) h h' → N.go P (sv a) h') : US P el (.p id 0 0 fin) (.i .i64 (a.length : Int)) h N := by
 have hrow : Row h id 0 0 (a.map bv) := o.own.row
 obtain ⟨blk, a1, a2, a3, a4, aE, a5, a6, a7⟩ := o
 have hld : ∀ k, loadN h id 0 0 fin a.length k = k (a.map bv) := fun k => by
   have := loadN_row (n := (a.map bv).length) (fin := fin) hrow rfl (by intro h0; have := congrArg List.length h0; simp at this; subst this; simp at hne) (by rw [List.length_map]; omega) k
   rwa [List.length_map] at this
 obtain ⟨next, floor, heap⟩ := h
 obtain ⟨cur, min, sz, cells, bel, fr⟩ := blk
 simp only at a2 a3 a4 aE a7
 subst a2; subst a3; subst a4; subst aE
 obtain ⟨hp, s1, s2, s3⟩ := setK_ok id (⟨0, 0, sz, cells, bel, a.length + 2⟩ : Blk) heap
 have a1' : heap.get id = some ⟨0, 0, sz, cells, bel, 0⟩ := a1
 have g2 : Nat.beq bel bel = true := Nat.beq_refl bel
 have g3 : B.geB floor id = true := by cases floor <;> first | rfl | (show Nat.ble _ _ = true; rw [Nat.ble_eq]; exact a5)
 have g4 : Nat.ble 1 a.length = true := by rw [Nat.ble_eq]; exact hne
 have g5 : Nat.ble a.length 1048576 = true := by rw [Nat.ble_eq]; exact hl
 have g6 : Nat.beq 0 0 = true := rfl
 have g7 : Nat.ble 0 0 = true := rfl
 refine US.of (v := sv a) (h' := ⟨next, floor, hp⟩) (fun q => ?_) (k _ ⟨rfl, Nat.le_refl _, fun i _ hi => s3 i hi⟩)
 simp only [vI_i, kdEq_self, ifK_true, natK_cast, vPZ_p]
 unfold uStrK
 rw [g6, ifK_true, g4, ifK_true, g5, ifK_true]
 simp only [elK, hK_mk, a1', optK_some, blkK_mk, g7, g2, ifK_true]
 rw [hld, pack_bv]
 have e0 : 0 * 256 ^ a.length + pk a = pk a := by rw [Nat.zero_mul, Nat.zero_add]
 rw [e0]
 simp only [freezeK, hK_mk, a1', optK_some, blkK_mk, g3, ifK_true]
 show fN (Nat.add a.length 2) (fun fr' => T.setK id ⟨0, 0, sz, cells, bel, fr'⟩ heap fun heap => q (.s a.length (pk a)) ⟨next, floor, heap⟩) = _
 rw [fN_eq]
 exact s1 _
end Go.Ev

set_option maxRecDepth 100000
set_option maxHeartbeats 8000000
set_option linter.all false
namespace Go.Proofs.Ytclpemggclmgeaa
open Go Go.Ev
theorem allT : ∀ L : List Tbl, allOne (L.flatMap tblC) = true
 | [] => rfl
 | a :: L => by
   rw [List.flatMap_cons]
   show allOne (.i .i64 a.id :: .i .i64 a.tier :: sv a.fst :: sv a.lst :: .i .i64 a.cnt :: L.flatMap tblC) = true
   exact allT L
theorem cloneT0_ok {h : H} : FnOk Try.prog 40 [.l0] h fun y h' => y = .l0 ∧ h' = h := by
 refine fn_go c40 (by intro hb; cases hb) (by simp) (by simp) fun Q hQ => ?_
 simp only [slotsF, Nat.reduceAdd]
 repeat' (first
   | refine St.h ?_
   | simp (disch := first | omega | (simp only [lnv]; omega)) only [wlk, ↓get_put', ↓reduceIte, seval]
   | (with_reducible (first | apply cd_split | apply gd_split)) <;> (intro hc; (try simp only [hcn] at hc); (try simp only [hc]); (try simp only [hcl] at hc); try omega))
 subst hQ
 exact ⟨rfl, rfl⟩
theorem cloneT1_ok {h : H} {id : B} {gg off len fin : Nat} {cap : Option Nat} {L : List Tbl} (hL : Tbs h (.l id gg off len fin cap) L) (hl : L.length ≤ 1000) (hf : B.val h.floor ≤ B.val h.next) : FnOk Try.prog 40 [.l id gg off len fin cap] h fun y h' => Rt h' y L ∧ (∀ q, isOf y q → B.val h.next ≤ B.val q) ∧ Stay nowhere h h' := by
 refine fn_go c40 (by intro hb; cases hb) (by simp) (by simp) fun Q hQ => ?_
 simp only [slotsF, Nat.reduceAdd]
 repeat' (first
   | refine St.h ?_
   | simp (disch := first | omega | (simp only [lnv]; omega)) only [wlk, ↓get_put', ↓reduceIte, seval]
   | (with_reducible (first | apply cd_split | apply gd_split)) <;> (intro hc; (try simp only [hcn] at hc); (try simp only [hc]); (try simp only [hcl] at hc); try omega))
 refine AL.own (by simp) hf fun h1 s1 n1 o1 => ?_
 have hf1 := s1.fl hf
 repeat' (first
   | refine St.h ?_
   | simp (disch := first | omega | (simp only [lnv]; omega)) only [wlk, ↓get_put', ↓reduceIte, seval]
   | (with_reducible (first | apply cd_split | apply gd_split)) <;> (intro hc; (try simp only [hcn] at hc); (try simp only [hc]); (try simp only [hcl] at hc); try omega))
 refine AP.e1 (new_ss (hL.grow s1) tblC_len (by omega)) hf1 (fm_len tblC_len L) (by omega) (by rw [fm_len tblC_len L]; omega) (fun e => ?_) fun h2 e s2 n2 b2 tp2 => ?_
 · have : L = [] := List.eq_nil_of_length_eq_zero e
   subst this
   repeat' (first
     | refine St.h ?_
     | simp (disch := first | omega | (simp only [lnv]; omega)) only [wlk, ↓get_put', ↓reduceIte, seval]
     | (with_reducible (first | apply cd_split | apply gd_split)) <;> (intro hc; (try simp only [hcn] at hc); (try simp only [hc]); (try simp only [hcl] at hc); try omega))
   subst hQ
   refine ⟨Gr.lit0 (by omega) (by rw [n1]; omega), ?_, s1⟩
   rintro q ⟨_, _, _, _, _, e⟩
   cases e; exact Nat.le_refl _
 · repeat' (first
     | refine St.h ?_
     | simp (disch := first | omega | (simp only [lnv]; omega)) only [wlk, ↓get_put', ↓reduceIte, seval]
     | (with_reducible (first | apply cd_split | apply gd_split)) <;> (intro hc; (try simp only [hcn] at hc); (try simp only [hc]); (try simp only [hcl] at hc); try omega))
   subst hQ
   refine ⟨Gr.buf b2 tp2 tblC_len (by omega), ?_, s1.trans s2⟩
   rintro q ⟨_, _, _, _, _, e⟩
   cases e; exact s1.next
theorem cloneT_ok {h : H} {v : V} {L : List Tbl} (hL : Tbs h v L) (hl : L.length ≤ 1000) (hf : B.val h.floor ≤ B.val h.next) : FnOk Try.prog 40 [v] h fun y h' => Rt h' y L ∧ (∀ q, isOf y q → B.val h.next ≤ B.val q) ∧ Stay nowhere h h' := by
 have hL0 := hL
 rcases hL with ⟨rfl, rfl⟩ | ⟨id, gg, off, fin, cap, rfl, hh⟩
 · exact cloneT0_ok.mono fun y h' ⟨a, b⟩ => by
     rw [a, b]
     refine ⟨Gr.nil, ?_, Stay.refl _ _⟩
     rintro q ⟨_, _, _, _, _, e⟩; cases e
 · exact cloneT1_ok hL0 hl hf
theorem repT_bv (n : Nat) : repL [V.i .u8 0] n = (List.replicate n (0 : UInt8)).map bv := by
 rw [repL_one, List.map_replicate]; rfl
theorem lcloneT_ok {h : H} {s : List UInt8} (hs : s.length ≤ 1000000) (hf : B.val h.floor ≤ B.val h.next) : FnOk Try.prog 60 [sv s] h fun y h' => y = sv s ∧ Stay nowhere h h' := by
 refine fn_go c60 (by intro hb; cases hb) (by simp) (by simp) fun Q hQ => ?_
 simp only [slotsF, Nat.reduceAdd]
 repeat' (first
   | refine St.h ?_
   | simp (disch := first | omega | (simp only [lnv]; omega)) only [wlk, ↓get_put', ↓reduceIte, seval, Int.toNat_natCast]
   | (with_reducible (first | apply cd_split | apply gd_split)) <;> (intro hc; (try simp only [hcn] at hc); (try simp only [hc]); (try simp only [hcl] at hc); try omega))
 · subst hQ
   have : s = [] := List.eq_nil_of_length_eq_zero (by omega)
   subst this
   exact ⟨rfl, Stay.refl _ _⟩
 refine AL.ownE (by rw [repT_bv]; simp; omega) hf fun h1 s1 n1 o1 => ?_
 have hf1 := s1.fl hf
 repeat' (first
   | refine St.h ?_
   | simp (disch := first | omega | (simp only [lnv]; omega)) only [wlk, ↓get_put', ↓reduceIte, seval, Int.toNat_natCast]
   | (with_reducible (first | apply cd_split | apply gd_split)) <;> (intro hc; (try simp only [hcn] at hc); (try simp only [hc]); (try simp only [hcl] at hc); try omega))
 refine CPS.own o1 (by omega) (by omega) (by omega) fun h2 o2 s2 => ?_
 repeat' (first
   | refine St.h ?_
   | simp (disch := first | omega | (simp only [lnv]; omega)) only [wlk, ↓get_put', ↓reduceIte, seval, Int.toNat_natCast, or_ustr]
   | (with_reducible (first | apply cd_split | apply gd_split)) <;> (intro hc; (try simp only [hcn] at hc); (try simp only [hc]); (try simp only [hcl] at hc); try omega))
 refine US.own o2 (by omega) (by omega) (by omega) fun h3 s3 => ?_
 repeat' (first
   | refine St.h ?_
   | simp (disch := first | omega | (simp only [lnv]; omega)) only [wlk, ↓get_put', ↓reduceIte, seval]
   | (with_reducible (first | apply cd_split | apply gd_split)) <;> (intro hc; (try simp only [hcn] at hc); (try simp only [hc]); (try simp only [hcl] at hc); try omega))
 subst hQ
 exact ⟨rfl, (s1.past' s2 fun i hi => by rw [hi]; exact Nat.le_refl _).past' s3 fun i hi => by rw [hi]; exact Nat.le_refl _⟩
theorem scloneT_ok {h : H} {s : List UInt8} (hs : s.length ≤ 1000000) (hf : B.val h.floor ≤ B.val h.next) : FnOk Try.prog 48 [sv s] h fun y h' => y = sv s ∧ Stay nowhere h h' := by
 refine fn_go c48 (by intro hb; cases hb) (by simp) (by simp) fun Q hQ => ?_
 simp only [slotsF, Nat.reduceAdd]
 repeat' (first
   | refine St.h ?_
   | simp (disch := first | omega | (simp only [lnv]; omega)) only [wlk, ↓get_put', ↓reduceIte, seval]
   | (with_reducible (first | apply cd_split | apply gd_split)) <;> (intro hc; (try simp only [hcn] at hc); (try simp only [hc]); (try simp only [hcl] at hc); try omega))
 refine CL.stay (lcloneT_ok hs hf) fun h1 s1 => ?_
 repeat' (first
   | refine St.h ?_
   | simp (disch := first | omega | (simp only [lnv]; omega)) only [wlk, ↓get_put', ↓reduceIte, seval]
   | (with_reducible (first | apply cd_split | apply gd_split)) <;> (intro hc; (try simp only [hcn] at hc); (try simp only [hc]); (try simp only [hcl] at hc); try omega))
 subst hQ
 exact ⟨rfl, s1⟩
theorem idxf_ok {h : H} {v : V} {L : List Tbl} {fn : FuncId} {cs : List V} {P : Tbl → Bool} (hL : Tbs h v L) (hl : L.length ≤ 1000) (hf : B.val h.floor ≤ B.val h.next)
   (hF : ∀ g t, Stay nowhere h g → t ∈ L → FnOk Try.prog fn (.a [.i .i64 t.id, .i .i64 t.tier, sv t.fst, sv t.lst, .i .i64 t.cnt] :: cs) g fun y g' => y = .b (P t) ∧ Stay nowhere g g') :
   FnOk Try.prog 58 [v, .f fn cs] h fun y h' => ∃ r : Int, y = .i .i64 r ∧ ((r = -1 ∧ ∀ t ∈ L, P t = false) ∨ ∃ i : Nat, r = (i : Int) ∧ i < L.length ∧ P (L.getD i default) = true ∧ ∀ k, k < i → P (L.getD k default) = false) ∧ Stay nowhere h h' := by
 refine fn_go c58 (by intro hb; cases hb) (by simp) (by simp) fun Q hQ => ?_
 simp only [slotsF, Nat.reduceAdd]
 repeat' (first
   | refine St.h ?_
   | simp (disch := first | omega | (simp only [lnv]; omega)) only [wlk, ↓get_put', ↓reduceIte, seval, hL.ln]
   | (with_reducible (first | apply cd_split | apply gd_split)) <;> (intro hc; (try simp only [hcn] at hc); (try simp only [hc]); (try simp only [hcl] at hc); try omega))
 refine Ok.lp (fun m t g => ∃ i : Nat, m = L.length - i ∧ i ≤ L.length ∧ get 0 t = v ∧ get 1 t = .f fn cs ∧ get 7 t = .i .i64 (L.length : Int) ∧ get 8 t = .i .i64 (i : Int) ∧ (∀ k, k < i → P (L.getD k default) = false) ∧ Stay nowhere h g) L.length ?_ ?_
 · simp (disch := first | omega | (simp only [lnv]; omega)) only [wlk, ↓get_put', ↓reduceIte, seval, hL.ln]
   refine ⟨0, by omega, by omega, ?_⟩
   refine ⟨?_, ?_, ?_, ?_, fun k hk => by omega, Stay.refl _ _⟩
   all_goals first | trivial | rfl
 rintro I hI m t g ⟨i, rfl, hi, f0, f1, f7, f8, hno, st⟩
 have hLg := hL.grow st
 have hfg := st.fl hf
 by_cases hil : i < L.length
 case neg =>
   obtain rfl : i = L.length := by omega
   have d1 : ((L.length : Int) < (L.length : Int)) = False := eq_false (by omega)
   repeat' (first
     | refine St.h ?_
     | simp (disch := first | omega | (simp only [lnv]; omega)) only [wlk, ↓get_put', ↓reduceIte, seval, f0, f1, f7, f8, d1]
     | (with_reducible (first | apply cd_split | apply gd_split)) <;> (intro hc; (try simp only [hcn] at hc); (try simp only [hc]); (try simp only [hcl] at hc); try omega))
   subst hQ
   refine ⟨-1, rfl, .inl ⟨rfl, fun t ht => ?_⟩, st⟩
   obtain ⟨k, hk, rfl⟩ := in_getD ht
   exact hno k hk
 have d1 : ((i : Int) < (L.length : Int)) = True := eq_true (by omega)
 repeat' (first
   | refine St.h ?_
   | simp (disch := first | omega | (simp only [lnv]; omega)) only [wlk, ↓get_put', ↓reduceIte, seval, f0, f1, f7, f8, d1, hLg.ix, hLg.la, Int.toNat_natCast]
   | (with_reducible (first | apply cd_split | apply gd_split)) <;> (intro hc; (try simp only [hcn] at hc); (try simp only [hc]); (try simp only [hcl] at hc); try omega))
 refine CL.stay (hF g _ st (getD_in hil)) fun g2 s2 => ?_
 have st2 := st.trans s2
 cases hk : P (L.getD i default) with
 | true =>
   repeat' (first
     | refine St.h ?_
     | simp (disch := first | omega | (simp only [lnv]; omega)) only [wlk, ↓get_put', ↓reduceIte, seval, f0, f1, f7, f8]
     | (with_reducible (first | apply cd_split | apply gd_split)) <;> (intro hc; (try simp only [hcn] at hc); (try simp only [hc]); (try simp only [hcl] at hc); try omega))
   subst hQ
   exact ⟨i, rfl, .inr ⟨i, rfl, hil, hk, hno⟩, st2⟩
 | false =>
   repeat' (first
     | refine St.h ?_
     | simp (disch := first | omega | (simp only [lnv]; omega)) only [wlk, ↓get_put', ↓reduceIte, seval, f0, f1, f7, f8]
     | (with_reducible (first | apply cd_split | apply gd_split)) <;> (intro hc; (try simp only [hcn] at hc); (try simp only [hc]); (try simp only [hcl] at hc); try omega))
   refine lp_next hI (L.length - (i + 1)) (by omega) ⟨i + 1, rfl, by omega, by simp (disch := first | omega | (simp only [lnv]; omega)) only [wlk, ↓get_put', ↓reduceIte, seval, f0], by simp (disch := first | omega | (simp only [lnv]; omega)) only [wlk, ↓get_put', ↓reduceIte, seval, f1], by simp (disch := first | omega | (simp only [lnv]; omega)) only [wlk, ↓get_put', ↓reduceIte, seval, f7], by simp (disch := first | omega | (simp only [lnv]; omega)) only [wlk, ↓get_put', ↓reduceIte, seval, f8]; rfl, fun k k1 => ?_, st2⟩
   by_cases e : k = i
   · rw [e]; exact hk
   · exact hno k (by omega)
theorem contf_ok {h : H} {v : V} {L : List Tbl} {fn : FuncId} {cs : List V} {P : Tbl → Bool} (hL : Tbs h v L) (hl : L.length ≤ 1000) (hf : B.val h.floor ≤ B.val h.next)
   (hF : ∀ g t, Stay nowhere h g → t ∈ L → FnOk Try.prog fn (.a [.i .i64 t.id, .i .i64 t.tier, sv t.fst, sv t.lst, .i .i64 t.cnt] :: cs) g fun y g' => y = .b (P t) ∧ Stay nowhere g g') :
   FnOk Try.prog 43 [v, .f fn cs] h fun y h' => y = .b (L.any P) ∧ Stay nowhere h h' := by
 refine fn_go c43 (by intro hb; cases hb) (by simp) (by simp) fun Q hQ => ?_
 simp only [slotsF, Nat.reduceAdd]
 repeat' (first
   | refine St.h ?_
   | simp (disch := first | omega | (simp only [lnv]; omega)) only [wlk, ↓get_put', ↓reduceIte, seval]
   | (with_reducible (first | apply cd_split | apply gd_split)) <;> (intro hc; (try simp only [hcn] at hc); (try simp only [hc]); (try simp only [hcl] at hc); try omega))
 refine CL.mk (idxf_ok hL hl hf hF) ?_
 rintro _ g ⟨r, rfl, hr, s⟩
 repeat' (first
   | refine St.h ?_
   | simp (disch := first | omega | (simp only [lnv]; omega)) only [wlk, ↓get_put', ↓reduceIte, seval]
   | (with_reducible (first | apply cd_split | apply gd_split)) <;> (intro hc; (try simp only [hcn] at hc); (try simp only [hc]); (try simp only [hcl] at hc); try omega))
 subst hQ
 refine ⟨congrArg V.b ?_, s⟩
 rcases hr with ⟨rfl, hno⟩ | ⟨i, rfl, hi, hp, _⟩
 · rw [List.any_eq_false.2 fun t ht => by rw [hno t ht]; simp]; rfl
 · rw [List.any_eq_true.2 ⟨_, getD_in hi, hp⟩]; simp
theorem delf_ok {h : H} {v : V} {L : List Tbl} {fn : FuncId} {cs : List V} {P : Tbl → Bool} (rb : Rt h v L) (hl : L.length ≤ 1000) (hf : B.val h.floor ≤ B.val h.next)
   (hF : ∀ g t, Stay (isOf v) h g → t ∈ L → FnOk Try.prog fn (.a [.i .i64 t.id, .i .i64 t.tier, sv t.fst, sv t.lst, .i .i64 t.cnt] :: cs) g fun y g' => y = .b (P t) ∧ Stay nowhere g g') :
   FnOk Try.prog 45 [v, .f fn cs] h fun y h' => Rt h' y (L.filter fun t => !P t) ∧ (∀ q, isOf y q → isOf v q) ∧ Stay (isOf v) h h' := by
 have hL := rb.tbs
 refine fn_go c45 (by intro hb; cases hb) (by simp) (by simp) fun Q hQ => ?_
 simp only [slotsF, Nat.reduceAdd]
 repeat' (first
   | refine St.h ?_
   | simp (disch := first | omega | (simp only [lnv]; omega)) only [wlk, ↓get_put', ↓reduceIte, seval]
   | (with_reducible (first | apply cd_split | apply gd_split)) <;> (intro hc; (try simp only [hcn] at hc); (try simp only [hc]); (try simp only [hcl] at hc); try omega))
 refine CL.mk (idxf_ok hL hl hf fun g t s ht => hF g t (stay_up s) ht) ?_
 rintro _ g ⟨r, rfl, hr, s⟩
 rcases hr with ⟨rfl, hno⟩ | ⟨i0, rfl, hi0, hp0, hno⟩
 · repeat' (first
     | refine St.h ?_
     | simp (disch := first | omega | (simp only [lnv]; omega)) only [wlk, ↓get_put', ↓reduceIte, seval]
     | (with_reducible (first | apply cd_split | apply gd_split)) <;> (intro hc; (try simp only [hcn] at hc); (try simp only [hc]); (try simp only [hcl] at hc); try omega))
   subst hQ
   rw [List.filter_eq_self.2 fun t ht => by rw [hno t ht]; rfl]
   exact ⟨rb.grow s, fun q hq => hq, stay_up s⟩
 have dm : ((i0 : Int) = -1) = False := eq_false (by omega)
 repeat' (first
   | refine St.h ?_
   | simp (disch := first | omega | (simp only [lnv]; omega)) only [wlk, ↓get_put', ↓reduceIte, seval, dm]
   | (with_reducible (first | apply cd_split | apply gd_split)) <;> (intro hc; (try simp only [hcn] at hc); (try simp only [hc]); (try simp only [hcl] at hc); try omega))
 have filt : ∀ j, j < L.length → (L.take (j + 1)).filter (fun t => !P t) = (L.take j).filter (fun t => !P t) ++ (if P (L.getD j default) then [] else [L.getD j default]) := fun j hj => by
   have : L.take (j + 1) = L.take j ++ [L.getD j default] := by rw [List.take_succ]; simp [List.getD, hj]
   rw [this, List.filter_append]
   cases hb : P (L.getD j default) with
   | true => rw [List.filter_cons, hb]; rfl
   | false => rw [List.filter_cons, hb]; rfl
 refine Ok.lp (fun m t g => ∃ (i j : Nat) (M : List Tbl), m = L.length - j ∧ i < j ∧ j ≤ L.length ∧ get 0 t = v ∧ get 1 t = .f fn cs ∧ get 5 t = .i .i64 (i : Int) ∧ get 6 t = .i .i64 (j : Int) ∧ M.length = L.length ∧ M.take i = (L.take j).filter (fun t => !P t) ∧ M.drop j = L.drop j ∧ Rt g v M ∧ Stay (isOf v) h g) (L.length - (i0 + 1)) ?_ ?_
 · simp (disch := first | omega | (simp only [lnv]; omega)) only [wlk, ↓get_put', ↓reduceIte, seval]
   refine ⟨i0, i0 + 1, L, rfl, by omega, by omega, ?_⟩
   refine ⟨?_, ?_, ?_, ?_, rfl, ?_, rfl, rb.grow s, stay_up s⟩
   rotate_right
   · rw [filt i0 hi0, hp0, if_pos rfl, List.append_nil]
     refine (List.filter_eq_self.2 fun t ht => ?_).symm
     obtain ⟨k, hk, rfl⟩ := in_getD ht
     rw [List.length_take] at hk
     have : (L.take i0).getD k default = L.getD k default := by rw [List.getD_eq_getElem?_getD, List.getElem?_take, if_pos (by omega), ← List.getD_eq_getElem?_getD]
     rw [this, hno k (by omega)]; rfl
   all_goals first | trivial | rfl
 rintro I hI m t g2 ⟨i, j, M, rfl, hij, hj, f0, f1, f5, f6, hM, hMi, hMj, rb2, st⟩
 have hfg := st.fl hf
 have hL2 := rb2.tbs
 by_cases hjl : j < L.length
 case neg =>
   obtain rfl : j = L.length := by omega
   rw [List.take_length] at hMi
   have d1 : ((L.length : Int) < (L.length : Int)) = False := eq_false (by omega)
   obtain ⟨u, hu, hclr⟩ := Gr.clr (P := Try.prog) (z := tblZ) rb2 tblC_len (by omega) (show i < M.length by omega) (by omega) (fun m => by rw [repL_flat]; exact allT _)
   repeat' (first
     | refine St.h ?_
     | simp (disch := first | omega | (simp only [lnv]; omega)) only [wlk, ↓get_put', ↓reduceIte, seval, f0, f1, f5, f6, hL2.ln, hM, d1, or_clear, hu]
     | (with_reducible (first | apply cd_split | apply gd_split)) <;> (intro hc; (try simp only [hcn] at hc); (try simp only [hc]); (try simp only [hcl] at hc); try omega))
   refine hclr _ fun g3 rb3 s3 => ?_
   have hlen : (M.take i).length = i := by rw [List.length_take]; omega
   obtain ⟨w, hw1, hw2, hw3⟩ := Gr.hi (P := Try.prog) (k := i) rb3 tblC_len (by simp; omega) (by simp; omega)
   repeat' (first
     | refine St.h ?_
     | simp (disch := first | omega | (simp only [lnv]; omega)) only [wlk, ↓get_put', ↓reduceIte, seval, f0, f1, f5, f6, hw3]
     | (with_reducible (first | apply cd_split | apply gd_split)) <;> (intro hc; (try simp only [hcn] at hc); (try simp only [hc]); (try simp only [hcl] at hc); try omega))
   subst hQ
   refine ⟨?_, hw2, st.trans s3⟩
   have e : (M.take i ++ List.replicate (M.length - i) tblZ).take i = L.filter fun t => !P t := by
     rw [List.take_append_of_le_length (by omega), List.take_of_length_le (by omega)]; exact hMi
   rw [e] at hw1
   exact hw1
 have d1 : ((j : Int) < (L.length : Int)) = True := eq_true (by omega)
 have gj : M.getD j default = L.getD j default := by
   have := congrArg (fun l => l[0]?) hMj
   simp only [List.getElem?_drop, Nat.add_zero] at this
   rw [List.getD_eq_getElem?_getD, this, ← List.getD_eq_getElem?_getD]
 repeat' (first
   | refine St.h ?_
   | simp (disch := first | omega | (simp only [lnv]; omega)) only [wlk, ↓get_put', ↓reduceIte, seval, f0, f1, f5, f6, hL2.ln, hL2.ix, hL2.la, hM, gj, d1, Int.toNat_natCast]
   | (with_reducible (first | apply cd_split | apply gd_split)) <;> (intro hc; (try simp only [hcn] at hc); (try simp only [hc]); (try simp only [hcl] at hc); try omega))
 refine AL.own (by simp) hfg fun g3 s3 n3 o3 => ?_
 repeat' (first
   | refine St.h ?_
   | simp (disch := first | omega | (simp only [lnv]; omega)) only [wlk, ↓get_put', ↓reduceIte, seval, f0, f1, f5, f6]
   | (with_reducible (first | apply cd_split | apply gd_split)) <;> (intro hc; (try simp only [hcn] at hc); (try simp only [hc]); (try simp only [hcl] at hc); try omega))
 refine ST.all o3 rfl rfl (by simp) (by simp) fun g4 o4 s4 => ?_
 have s34 : Stay nowhere g2 g4 := s3.past' s4 fun q e => by rw [e]; exact Nat.le_refl _
 have rb4 := rb2.grow s34
 have st4 := st.trans (stay_up s34)
 have r4 := o4.row
 repeat' (first
   | refine St.h ?_
   | simp (disch := first | omega | (simp only [lnv]; omega)) only [wlk, ↓get_put', ↓reduceIte, seval, f0, f1, f5, f6, r4.ln]
   | (with_reducible (first | apply cd_split | apply gd_split)) <;> (intro hc; (try simp only [hcn] at hc); (try simp only [hc]); (try simp only [hcl] at hc); try omega))
 refine CL.stay (hF g4 _ st4 (getD_in hjl)) fun g5 s5 => ?_
 have rb5 := rb4.grow s5
 have st5 := st4.trans (stay_up s5)
 have o5 := o4.stay s5 fun e => e
 have r5 := o5.row
 have hL5 := rb5.tbs
 have hMj2 : ∀ M' : List Tbl, (∀ k, j < k → M'[k]? = M[k]?) → M'.drop (j + 1) = L.drop (j + 1) := fun M' hk => by
   refine List.ext_getElem? fun k => ?_
   rw [List.getElem?_drop, hk _ (by omega), List.getElem?_drop]
   have := congrArg (fun l => l[k + 1]?) hMj
   simp only [List.getElem?_drop] at this
   rw [show j + 1 + k = j + (k + 1) by omega]; exact this
 cases hk : P (L.getD j default) with
 | true =>
   repeat' (first
     | refine St.h ?_
     | simp (disch := first | omega | (simp only [lnv]; omega)) only [wlk, ↓get_put', ↓reduceIte, seval, f0, f1, f5, f6]
     | (with_reducible (first | apply cd_split | apply gd_split)) <;> (intro hc; (try simp only [hcn] at hc); (try simp only [hc]); (try simp only [hcl] at hc); try omega))
   refine lp_next hI (L.length - (j + 1)) (by omega) ⟨i, j + 1, M, rfl, by omega, by omega, by simp (disch := first | omega | (simp only [lnv]; omega)) only [wlk, ↓get_put', ↓reduceIte, seval, f0], by simp (disch := first | omega | (simp only [lnv]; omega)) only [wlk, ↓get_put', ↓reduceIte, seval, f1], by simp (disch := first | omega | (simp only [lnv]; omega)) only [wlk, ↓get_put', ↓reduceIte, seval, f5], by simp (disch := first | omega | (simp only [lnv]; omega)) only [wlk, ↓get_put', ↓reduceIte, seval, f6]; rfl, hM, by rw [filt j hjl, hk, if_pos rfl, List.append_nil]; exact hMi, hMj2 M fun _ _ => rfl, rb5, st5⟩
 | false =>
   repeat' (first
     | refine St.h ?_
     | simp (disch := first | omega | (simp only [lnv]; omega)) only [wlk, ↓get_put', ↓reduceIte, seval, f0, f1, f5, f6, r5.ln, hL5.ix, hM, Int.toNat_natCast]
     | (with_reducible (first | apply cd_split | apply gd_split)) <;> (intro hc; (try simp only [hcn] at hc); (try simp only [hc]); (try simp only [hcl] at hc); try omega))
   refine ST.gr (y := L.getD j default) rb5 tblC_len (by omega) (by omega) (by omega) rfl fun g6 rb6 s6 => ?_
   repeat' (first
     | refine St.h ?_
     | simp (disch := first | omega | (simp only [lnv]; omega)) only [wlk, ↓get_put', ↓reduceIte, seval, f0, f1, f5, f6]
     | (with_reducible (first | apply cd_split | apply gd_split)) <;> (intro hc; (try simp only [hcn] at hc); (try simp only [hc]); (try simp only [hcl] at hc); try omega))
   refine lp_next hI (L.length - (j + 1)) (by omega) ⟨i + 1, j + 1, M.set i (L.getD j default), rfl, by omega, by omega, by simp (disch := first | omega | (simp only [lnv]; omega)) only [wlk, ↓get_put', ↓reduceIte, seval, f0], by simp (disch := first | omega | (simp only [lnv]; omega)) only [wlk, ↓get_put', ↓reduceIte, seval, f1], by simp (disch := first | omega | (simp only [lnv]; omega)) only [wlk, ↓get_put', ↓reduceIte, seval, f5]; rfl, by simp (disch := first | omega | (simp only [lnv]; omega)) only [wlk, ↓get_put', ↓reduceIte, seval, f6]; rfl, by rw [List.length_set]; exact hM, ?_, hMj2 _ fun k hk => by rw [List.getElem?_set_ne (by omega)], rb6, st5.trans s6⟩
   rw [filt j hjl, hk, if_neg (by simp), ← hMi, List.take_succ, List.take_set_of_le (Nat.le_refl i)]
   congr 1
   rw [List.getElem?_set_self (by omega)]; rfl
theorem idxI_ok {h : H} {v : V} {xs : List Int} {x : Int} (hL : Il h v xs) (hl : xs.length ≤ 1000) : FnOk Try.prog 59 [v, .i .i64 x] h fun y h' => ∃ r : Int, y = .i .i64 r ∧ (decide (0 ≤ r) = goneB xs x) ∧ h' = h := by
 refine fn_go c59 (by intro hb; cases hb) (by simp) (by simp) fun Q hQ => ?_
 simp only [slotsF, Nat.reduceAdd]
 repeat' (first
   | refine St.h ?_
   | simp (disch := first | omega | (simp only [lnv]; omega)) only [wlk, ↓get_put', ↓reduceIte, seval, hL.ln]
   | (with_reducible (first | apply cd_split | apply gd_split)) <;> (intro hc; (try simp only [hcn] at hc); (try simp only [hc]); (try simp only [hcl] at hc); try omega))
 refine Ok.lp (fun m t g => ∃ i : Nat, m = xs.length - i ∧ i ≤ xs.length ∧ h = g ∧ get 0 t = v ∧ get 1 t = .i .i64 x ∧ get 7 t = .i .i64 (xs.length : Int) ∧ get 8 t = .i .i64 (i : Int) ∧ (∀ k, k < i → xs.getD k 0 ≠ x)) xs.length ?_ ?_
 · simp (disch := first | omega | (simp only [lnv]; omega)) only [wlk, ↓get_put', ↓reduceIte, seval, hL.ln]
   refine ⟨0, by omega, by omega, ?_⟩
   refine ⟨?_, ?_, ?_, ?_, ?_, fun k hk => by omega⟩
   all_goals first | trivial | rfl
 rintro I hI m t g ⟨i, rfl, hi, rfl, f0, f1, f7, f8, hno⟩
 by_cases hil : i < xs.length
 case neg =>
   obtain rfl : i = xs.length := by omega
   have d1 : ((xs.length : Int) < (xs.length : Int)) = False := eq_false (by omega)
   repeat' (first
     | refine St.h ?_
     | simp (disch := first | omega | (simp only [lnv]; omega)) only [wlk, ↓get_put', ↓reduceIte, seval, f0, f1, f7, f8, d1]
     | (with_reducible (first | apply cd_split | apply gd_split)) <;> (intro hc; (try simp only [hcn] at hc); (try simp only [hc]); (try simp only [hcl] at hc); try omega))
   subst hQ
   refine ⟨-1, rfl, ?_, rfl⟩
   refine Eq.symm (List.any_eq_false.2 fun y hy => ?_)
   obtain ⟨k, hk, rfl⟩ := List.mem_iff_getElem.1 hy
   have := hno k hk
   simp [List.getD, hk] at this
   simpa using this
 have d1 : ((i : Int) < (xs.length : Int)) = True := eq_true (by omega)
 by_cases hx : xs.getD i 0 = x
 · have d2 : (x = xs.getD i 0) = True := eq_true hx.symm
   repeat' (first
     | refine St.h ?_
     | simp (disch := first | omega | (simp only [lnv]; omega)) only [wlk, ↓get_put', ↓reduceIte, seval, f0, f1, f7, f8, d1, d2, hL.ix, hL.ld, Int.toNat_natCast]
     | (with_reducible (first | apply cd_split | apply gd_split)) <;> (intro hc; (try simp only [hcn] at hc); (try simp only [hc]); (try simp only [hcl] at hc); try omega))
   subst hQ
   refine ⟨i, rfl, ?_, rfl⟩
   rw [decide_eq_true (by omega)]
   refine Eq.symm (List.any_eq_true.2 ⟨xs.getD i 0, ?_, by simpa using hx⟩)
   simp [List.getD, hil]
 · have d2 : (x = xs.getD i 0) = False := eq_false (Ne.symm hx)
   repeat' (first
     | refine St.h ?_
     | simp (disch := first | omega | (simp only [lnv]; omega)) only [wlk, ↓get_put', ↓reduceIte, seval, f0, f1, f7, f8, d1, d2, hL.ix, hL.ld, Int.toNat_natCast]
     | (with_reducible (first | apply cd_split | apply gd_split)) <;> (intro hc; (try simp only [hcn] at hc); (try simp only [hc]); (try simp only [hcl] at hc); try omega))
   refine lp_next hI (xs.length - (i + 1)) (by omega) ⟨i + 1, rfl, by omega, rfl, by simp (disch := first | omega | (simp only [lnv]; omega)) only [wlk, ↓get_put', ↓reduceIte, seval, f0], by simp (disch := first | omega | (simp only [lnv]; omega)) only [wlk, ↓get_put', ↓reduceIte, seval, f1], by simp (disch := first | omega | (simp only [lnv]; omega)) only [wlk, ↓get_put', ↓reduceIte, seval, f7], by simp (disch := first | omega | (simp only [lnv]; omega)) only [wlk, ↓get_put', ↓reduceIte, seval, f8]; rfl, fun k k1 => ?_⟩
   by_cases e : k = i
   · rw [e]; exact hx
   · exact hno k (by omega)
theorem contI_ok {h : H} {v : V} {xs : List Int} {x : Int} (hL : Il h v xs) (hl : xs.length ≤ 1000) : FnOk Try.prog 47 [v, .i .i64 x] h fun y h' => y = .b (goneB xs x) ∧ h' = h := by
 refine fn_go c47 (by intro hb; cases hb) (by simp) (by simp) fun Q hQ => ?_
 simp only [slotsF, Nat.reduceAdd]
 repeat' (first
   | refine St.h ?_
   | simp (disch := first | omega | (simp only [lnv]; omega)) only [wlk, ↓get_put', ↓reduceIte, seval]
   | (with_reducible (first | apply cd_split | apply gd_split)) <;> (intro hc; (try simp only [hcn] at hc); (try simp only [hc]); (try simp only [hcl] at hc); try omega))
 refine CL.mk (idxI_ok hL hl) ?_
 rintro _ g ⟨r, rfl, hr, rfl⟩
 repeat' (first
   | refine St.h ?_
   | simp (disch := first | omega | (simp only [lnv]; omega)) only [wlk, ↓get_put', ↓reduceIte, seval]
   | (with_reducible (first | apply cd_split | apply gd_split)) <;> (intro hc; (try simp only [hcn] at hc); (try simp only [hc]); (try simp only [hcl] at hc); try omega))
 subst hQ
 exact ⟨congrArg V.b hr, rfl⟩
end Go.Proofs.Ytclpemggclmgeaa

set_option maxRecDepth 100000
set_option maxHeartbeats 8000000
set_option linter.all false
namespace Go.Proofs.Ytclpemggclmgeaa
open Go Go.Ev
theorem from_ok {h : H} {a n b : Int} : FnOk Try.prog 42 [.i .i64 a, .i .i64 n, .i .i64 b] h fun y h' => y = .b (decide (a ≤ n ∧ n ≤ b)) ∧ h' = h := by
 refine fn_go c42 (by intro hb; cases hb) (by simp) (by simp) fun Q hQ => ?_
 simp only [slotsF, Nat.reduceAdd]
 by_cases h1 : a ≤ n
 · have d1 := eq_true h1
   repeat' (first
     | refine St.h ?_
     | simp (disch := first | omega | (simp only [lnv]; omega)) only [wlk, ↓get_put', ↓reduceIte, seval, d1]
     | (with_reducible (first | apply cd_split | apply gd_split)) <;> (intro hc; (try simp only [hcn] at hc); (try simp only [hc]); (try simp only [hcl] at hc); try omega))
   subst hQ
   exact ⟨congrArg V.b (by simp [h1]), rfl⟩
 · have d1 := eq_false h1
   repeat' (first
     | refine St.h ?_
     | simp (disch := first | omega | (simp only [lnv]; omega)) only [wlk, ↓get_put', ↓reduceIte, seval, d1]
     | (with_reducible (first | apply cd_split | apply gd_split)) <;> (intro hc; (try simp only [hcn] at hc); (try simp only [hc]); (try simp only [hcl] at hc); try omega))
   subst hQ
   exact ⟨congrArg V.b (by simp [h1]), rfl⟩
theorem key_ok {h : H} {s : List UInt8} : FnOk Try.prog 57 [sv s] h fun y h' => y = .b (decide ((1 : Int) ≤ (s.length : Int) ∧ (s.length : Int) ≤ 13)) ∧ h' = h := by
 refine fn_go c57 (by intro hb; cases hb) (by simp) (by simp) fun Q hQ => ?_
 simp only [slotsF, Nat.reduceAdd]
 repeat' (first
   | refine St.h ?_
   | simp (disch := first | omega | (simp only [lnv]; omega)) only [wlk, ↓get_put', ↓reduceIte, seval]
   | (with_reducible (first | apply cd_split | apply gd_split)) <;> (intro hc; (try simp only [hcn] at hc); (try simp only [hc]); (try simp only [hcl] at hc); try omega))
 refine CL.pure from_ok ?_
 repeat' (first
   | refine St.h ?_
   | simp (disch := first | omega | (simp only [lnv]; omega)) only [wlk, ↓get_put', ↓reduceIte, seval]
   | (with_reducible (first | apply cd_split | apply gd_split)) <;> (intro hc; (try simp only [hcn] at hc); (try simp only [hc]); (try simp only [hcl] at hc); try omega))
 subst hQ
 exact ⟨rfl, rfl⟩
theorem isTb_eq (t : Tbl) : isTb t = (decide (1 ≤ t.id ∧ t.id ≤ 1000000) && (decide (0 ≤ t.tier ∧ t.tier ≤ 1) && (decide ((1 : Int) ≤ (t.fst.length : Int) ∧ (t.fst.length : Int) ≤ 13) && (decide ((1 : Int) ≤ (t.lst.length : Int) ∧ (t.lst.length : Int) ≤ 13) && ((Op.bytesLess t.fst t.lst || decide (t.fst = t.lst)) && decide (1 ≤ t.cnt)))))) := by
 rw [le_b, Bool.eq_iff_iff, isTb_iff]
 simp only [Bool.and_eq_true, decide_eq_true_eq, Bool.not_eq_true']
 constructor
 · rintro ⟨a, b, c, d, e, f, g⟩; exact ⟨⟨a, b⟩, by omega, by omega, by omega, f, g⟩
 · rintro ⟨⟨a, b⟩, c, d, e, f, g⟩; exact ⟨a, b, by omega, by omega, by omega, f, g⟩
theorem tbl_ok {h : H} {t : Tbl} (hf : B.val h.floor ≤ B.val h.next) : FnOk Try.prog 41 [.a [.i .i64 t.id, .i .i64 t.tier, sv t.fst, sv t.lst, .i .i64 t.cnt]] h fun y h' => y = .b (isTb t) ∧ Stay nowhere h h' := by
 rw [isTb_eq]
 refine fn_go c41 (by intro hb; cases hb) (by simp) (by simp) fun Q hQ => ?_
 simp only [slotsF, Nat.reduceAdd]
 repeat' (first
   | refine St.h ?_
   | simp (disch := first | omega | (simp only [lnv]; omega)) only [wlk, ↓get_put', ↓reduceIte, seval]
   | (with_reducible (first | apply cd_split | apply gd_split)) <;> (intro hc; (try simp only [hcn] at hc); (try simp only [hc]); (try simp only [hcl] at hc); try omega))
 refine AL.own (by simp) hf fun h1 s1 n1 o1 => ?_
 have r1 := o1.row
 repeat' (first
   | refine St.h ?_
   | simp (disch := first | omega | (simp only [lnv]; omega)) only [wlk, ↓get_put', ↓reduceIte, seval, r1.l1]
   | (with_reducible (first | apply cd_split | apply gd_split)) <;> (intro hc; (try simp only [hcn] at hc); (try simp only [hc]); (try simp only [hcl] at hc); try omega))
 refine CL.pure from_ok ?_
 cases c1 : decide (1 ≤ t.id ∧ t.id ≤ 1000000) with
 | false =>
   repeat' (first
     | refine St.h ?_
     | simp (disch := first | omega | (simp only [lnv]; omega)) only [wlk, ↓get_put', ↓reduceIte, seval, c1]
     | (with_reducible (first | apply cd_split | apply gd_split)) <;> (intro hc; (try simp only [hcn] at hc); (try simp only [hc]); (try simp only [hcl] at hc); try omega))
   subst hQ
   exact ⟨congrArg V.b (by rw [c1]; rfl), s1⟩
 | true =>
 repeat' (first
   | refine St.h ?_
   | simp (disch := first | omega | (simp only [lnv]; omega)) only [wlk, ↓get_put', ↓reduceIte, seval, c1, r1.l1]
   | (with_reducible (first | apply cd_split | apply gd_split)) <;> (intro hc; (try simp only [hcn] at hc); (try simp only [hc]); (try simp only [hcl] at hc); try omega))
 refine CL.pure from_ok ?_
 cases c2 : decide (0 ≤ t.tier ∧ t.tier ≤ 1) with
 | false =>
   repeat' (first
     | refine St.h ?_
     | simp (disch := first | omega | (simp only [lnv]; omega)) only [wlk, ↓get_put', ↓reduceIte, seval, c2]
     | (with_reducible (first | apply cd_split | apply gd_split)) <;> (intro hc; (try simp only [hcn] at hc); (try simp only [hc]); (try simp only [hcl] at hc); try omega))
   subst hQ
   exact ⟨congrArg V.b (by rw [c1, c2]; rfl), s1⟩
 | true =>
 repeat' (first
   | refine St.h ?_
   | simp (disch := first | omega | (simp only [lnv]; omega)) only [wlk, ↓get_put', ↓reduceIte, seval, c2, r1.l1]
   | (with_reducible (first | apply cd_split | apply gd_split)) <;> (intro hc; (try simp only [hcn] at hc); (try simp only [hc]); (try simp only [hcl] at hc); try omega))
 refine CL.pure key_ok ?_
 cases c3 : decide ((1 : Int) ≤ (t.fst.length : Int) ∧ (t.fst.length : Int) ≤ 13) with
 | false =>
   repeat' (first
     | refine St.h ?_
     | simp (disch := first | omega | (simp only [lnv]; omega)) only [wlk, ↓get_put', ↓reduceIte, seval, c3]
     | (with_reducible (first | apply cd_split | apply gd_split)) <;> (intro hc; (try simp only [hcn] at hc); (try simp only [hc]); (try simp only [hcl] at hc); try omega))
   subst hQ
   exact ⟨congrArg V.b (by rw [c1, c2, c3]; rfl), s1⟩
 | true =>
 repeat' (first
   | refine St.h ?_
   | simp (disch := first | omega | (simp only [lnv]; omega)) only [wlk, ↓get_put', ↓reduceIte, seval, c3, r1.l1]
   | (with_reducible (first | apply cd_split | apply gd_split)) <;> (intro hc; (try simp only [hcn] at hc); (try simp only [hc]); (try simp only [hcl] at hc); try omega))
 refine CL.pure key_ok ?_
 cases c4 : decide ((1 : Int) ≤ (t.lst.length : Int) ∧ (t.lst.length : Int) ≤ 13) with
 | false =>
   repeat' (first
     | refine St.h ?_
     | simp (disch := first | omega | (simp only [lnv]; omega)) only [wlk, ↓get_put', ↓reduceIte, seval, c4]
     | (with_reducible (first | apply cd_split | apply gd_split)) <;> (intro hc; (try simp only [hcn] at hc); (try simp only [hc]); (try simp only [hcl] at hc); try omega))
   subst hQ
   exact ⟨congrArg V.b (by rw [c1, c2, c3, c4]; rfl), s1⟩
 | true =>
 cases c5 : (Op.bytesLess t.fst t.lst || decide (t.fst = t.lst)) with
 | false =>
   repeat' (first
     | refine St.h ?_
     | simp (disch := first | omega | (simp only [lnv]; omega)) only [wlk, ↓get_put', ↓reduceIte, seval, c4, c5, r1.l1]
     | (with_reducible (first | apply cd_split | apply gd_split)) <;> (intro hc; (try simp only [hcn] at hc); (try simp only [hc]); (try simp only [hcl] at hc); try omega))
   subst hQ
   exact ⟨congrArg V.b (by rw [c1, c2, c3, c4, c5]; rfl), s1⟩
 | true =>
   repeat' (first
     | refine St.h ?_
     | simp (disch := first | omega | (simp only [lnv]; omega)) only [wlk, ↓get_put', ↓reduceIte, seval, c4, c5, r1.l1]
     | (with_reducible (first | apply cd_split | apply gd_split)) <;> (intro hc; (try simp only [hcn] at hc); (try simp only [hc]); (try simp only [hcl] at hc); try omega))
   subst hQ
   exact ⟨congrArg V.b (by rw [c1, c2, c3, c4, c5]; rfl), s1⟩
def EdM (h : H) (g c : V) (e : Edt) : Prop := Il h g e.gone ∧ Tbs h c e.come
theorem EdM.grow {h h' : H} {g c : V} {e : Edt} (a : EdM h g c e) (s : Stay nowhere h h') : EdM h' g c e := ⟨a.1.grow s, a.2.grow s⟩
theorem isEd_eq (e : Edt) : isEd e = (decide (e.gone.length ≤ 40) && (decide (e.come.length ≤ 40) && (upsT e.come e.come.length && (decide (0 ≤ e.log ∧ e.log ≤ 1000000) && decide (0 ≤ e.seq ∧ e.seq ≤ 1000000))))) := by
 unfold isEd; simp only [Bool.and_assoc]
theorem edit_ok {h : H} {g c : V} {e : Edt} (a : EdM h g c e) (hl : e.gone.length ≤ 100000) (hl2 : e.come.length ≤ 100000) (hf : B.val h.floor ≤ B.val h.next) : FnOk Try.prog 25 [.a [g, c, .i .i64 e.log, .i .i64 e.seq]] h fun y h' => y = .b (isEd e) ∧ Stay nowhere h h' := by
 rw [isEd_eq]
 refine fn_go c25 (by intro hb; cases hb) (by simp) (by simp) fun Q hQ => ?_
 simp only [slotsF, Nat.reduceAdd]
 repeat' (first
   | refine St.h ?_
   | simp (disch := first | omega | (simp only [lnv]; omega)) only [wlk, ↓get_put', ↓reduceIte, seval]
   | (with_reducible (first | apply cd_split | apply gd_split)) <;> (intro hc; (try simp only [hcn] at hc); (try simp only [hc]); (try simp only [hcl] at hc); try omega))
 refine AL.own (by simp) hf fun h1 s1 n1 o1 => ?_
 have r1 := o1.row
 have a1 := a.grow s1
 by_cases hg : e.gone.length ≤ 40
 case neg =>
   have d1 : ((40 : Int) < (e.gone.length : Int)) = True := eq_true (by omega)
   repeat' (first
     | refine St.h ?_
     | simp (disch := first | omega | (simp only [lnv]; omega)) only [wlk, ↓get_put', ↓reduceIte, seval, r1.l1, a1.1.ln, d1]
     | (with_reducible (first | apply cd_split | apply gd_split)) <;> (intro hc; (try simp only [hcn] at hc); (try simp only [hc]); (try simp only [hcl] at hc); try omega))
   subst hQ
   exact ⟨congrArg V.b (by rw [decide_eq_false hg]; rfl), s1⟩
 have d1 : ((40 : Int) < (e.gone.length : Int)) = False := eq_false (by omega)
 by_cases hc : e.come.length ≤ 40
 case neg =>
   have d2 : ((40 : Int) < (e.come.length : Int)) = True := eq_true (by omega)
   repeat' (first
     | refine St.h ?_
     | simp (disch := first | omega | (simp only [lnv]; omega)) only [wlk, ↓get_put', ↓reduceIte, seval, r1.l1, a1.1.ln, a1.2.ln, d1, d2]
     | (with_reducible (first | apply cd_split | apply gd_split)) <;> (intro hc; (try simp only [hcn] at hc); (try simp only [hc]); (try simp only [hcl] at hc); try omega))
   subst hQ
   exact ⟨congrArg V.b (by rw [decide_eq_true hg, decide_eq_false hc]; rfl), s1⟩
 have d2 : ((40 : Int) < (e.come.length : Int)) = False := eq_false (by omega)
 have fin : ∀ q, (upsT e.come e.come.length && (decide (0 ≤ e.log ∧ e.log ≤ 1000000) && decide (0 ≤ e.seq ∧ e.seq ≤ 1000000))) = q → (decide (e.gone.length ≤ 40) && (decide (e.come.length ≤ 40) && (upsT e.come e.come.length && (decide (0 ≤ e.log ∧ e.log ≤ 1000000) && decide (0 ≤ e.seq ∧ e.seq ≤ 1000000))))) = q := fun q hq => by rw [decide_eq_true hg, decide_eq_true hc, hq]; rfl
 repeat' (first
   | refine St.h ?_
   | simp (disch := first | omega | (simp only [lnv]; omega)) only [wlk, ↓get_put', ↓reduceIte, seval, r1.l1, a1.1.ln, a1.2.ln, d1, d2]
   | (with_reducible (first | apply cd_split | apply gd_split)) <;> (intro hc; (try simp only [hcn] at hc); (try simp only [hc]); (try simp only [hcl] at hc); try omega))
 refine Ok.lp (fun m t g => ∃ i : Nat, m = e.come.length - i ∧ i ≤ e.come.length ∧ get 1 t = .p h.next 0 0 4 ∧ get 16 t = c ∧ get 17 t = .i .i64 (e.come.length : Int) ∧ get 18 t = .i .i64 (i : Int) ∧ upsT e.come i = true ∧ Stay nowhere h1 g) e.come.length ?_ ?_
 · simp (disch := first | omega | (simp only [lnv]; omega)) only [wlk, ↓get_put', ↓reduceIte, seval]
   refine ⟨0, by omega, by omega, ?_⟩
   refine ⟨?_, ?_, ?_, ?_, rfl, Stay.refl _ _⟩
   all_goals first | trivial | rfl
 rintro I hI m t g2 ⟨i, rfl, hi, f1, f16, f17, f18, hup, st⟩
 have o2 := o1.stay st fun e => e
 have r2 := o2.row
 have a2 := a1.grow st
 have hf2 := st.fl (s1.fl hf)
 by_cases hil : i < e.come.length
 case neg =>
   obtain rfl : i = e.come.length := by omega
   have d3 : ((e.come.length : Int) < (e.come.length : Int)) = False := eq_false (by omega)
   repeat' (first
     | refine St.h ?_
     | simp (disch := first | omega | (simp only [lnv]; omega)) only [wlk, ↓get_put', ↓reduceIte, seval, f1, f16, f17, f18, d3, r2.l1]
     | (with_reducible (first | apply cd_split | apply gd_split)) <;> (intro hc; (try simp only [hcn] at hc); (try simp only [hc]); (try simp only [hcl] at hc); try omega))
   refine CL.pure from_ok ?_
   cases c1 : decide (0 ≤ e.log ∧ e.log ≤ 1000000) with
   | false =>
     repeat' (first
       | refine St.h ?_
       | simp (disch := first | omega | (simp only [lnv]; omega)) only [wlk, ↓get_put', ↓reduceIte, seval, f1, c1]
       | (with_reducible (first | apply cd_split | apply gd_split)) <;> (intro hc; (try simp only [hcn] at hc); (try simp only [hc]); (try simp only [hcl] at hc); try omega))
     subst hQ
     exact ⟨congrArg V.b (fin _ (by rw [c1, hup]; rfl)).symm, s1.trans st⟩
   | true =>
     repeat' (first
       | refine St.h ?_
       | simp (disch := first | omega | (simp only [lnv]; omega)) only [wlk, ↓get_put', ↓reduceIte, seval, f1, c1, r2.l1]
       | (with_reducible (first | apply cd_split | apply gd_split)) <;> (intro hc; (try simp only [hcn] at hc); (try simp only [hc]); (try simp only [hcl] at hc); try omega))
     refine CL.pure from_ok ?_
     repeat' (first
       | refine St.h ?_
       | simp (disch := first | omega | (simp only [lnv]; omega)) only [wlk, ↓get_put', ↓reduceIte, seval]
       | (with_reducible (first | apply cd_split | apply gd_split)) <;> (intro hc; (try simp only [hcn] at hc); (try simp only [hc]); (try simp only [hcl] at hc); try omega))
     subst hQ
     exact ⟨congrArg V.b (fin _ (by rw [c1, hup]; rfl)).symm, s1.trans st⟩
 have d3 : ((i : Int) < (e.come.length : Int)) = True := eq_true (by omega)
 have no : upT e.come i = false → (upsT e.come e.come.length && (decide (0 ≤ e.log ∧ e.log ≤ 1000000) && decide (0 ≤ e.seq ∧ e.seq ≤ 1000000))) = false := fun hx => by rw [upsT_no hil hx]; rfl
 repeat' (first
   | refine St.h ?_
   | simp (disch := first | omega | (simp only [lnv]; omega)) only [wlk, ↓get_put', ↓reduceIte, seval, f1, f16, f17, f18, d3, a2.2.ix, a2.2.la, Int.toNat_natCast]
   | (with_reducible (first | apply cd_split | apply gd_split)) <;> (intro hc; (try simp only [hcn] at hc); (try simp only [hc]); (try simp only [hcl] at hc); try omega))
 refine AL.own (by simp) hf2 fun g3 s3 n3 o3 => ?_
 have hf3 := s3.fl hf2
 repeat' (first
   | refine St.h ?_
   | simp (disch := first | omega | (simp only [lnv]; omega)) only [wlk, ↓get_put', ↓reduceIte, seval, f1, f16, f17, f18]
   | (with_reducible (first | apply cd_split | apply gd_split)) <;> (intro hc; (try simp only [hcn] at hc); (try simp only [hc]); (try simp only [hcl] at hc); try omega))
 refine ST.all o3 rfl rfl (by simp) (by simp) fun g4 o4 s4 => ?_
 have s34 : Stay nowhere g2 g4 := s3.past' s4 fun q e => by rw [e]; exact Nat.le_refl _
 have hf4 := s34.fl hf2
 have r4 := o4.row
 repeat' (first
   | refine St.h ?_
   | simp (disch := first | omega | (simp only [lnv]; omega)) only [wlk, ↓get_put', ↓reduceIte, seval, f1, f16, f17, f18, r4.ln]
   | (with_reducible (first | apply cd_split | apply gd_split)) <;> (intro hc; (try simp only [hcn] at hc); (try simp only [hc]); (try simp only [hcl] at hc); try omega))
 refine CL.stay (tbl_ok hf4) fun g5 s5 => ?_
 have st5 := st.trans (s34.trans s5)
 have r5 := (o4.stay s5 fun e => e).row
 have q5 := (o1.stay st5 fun e => e).row
 have a5 := a1.grow st5
 cases hb : isTb (e.come.getD i default) with
 | false =>
   repeat' (first
     | refine St.h ?_
     | simp (disch := first | omega | (simp only [lnv]; omega)) only [wlk, ↓get_put', ↓reduceIte, seval, f1, f16, f17, f18]
     | (with_reducible (first | apply cd_split | apply gd_split)) <;> (intro hc; (try simp only [hcn] at hc); (try simp only [hc]); (try simp only [hcl] at hc); try omega))
   subst hQ
   exact ⟨congrArg V.b (fin _ (no (by unfold upT; rw [hb]; rfl))).symm, s1.trans st5⟩
 | true =>
 by_cases h0 : i = 0
 · have hu : upT e.come i = true := by unfold upT; rw [hb, decide_eq_true h0]; rfl
   have d4 : ((0 : Int) < (i : Int)) = False := eq_false (by omega)
   repeat' (first
     | refine St.h ?_
     | simp (disch := first | omega | (simp only [lnv]; omega)) only [wlk, ↓get_put', ↓reduceIte, seval, f1, f16, f17, f18, d4]
     | (with_reducible (first | apply cd_split | apply gd_split)) <;> (intro hc; (try simp only [hcn] at hc); (try simp only [hc]); (try simp only [hcl] at hc); try omega))
   exact lp_next hI (e.come.length - (i + 1)) (by omega) ⟨i + 1, rfl, by omega, by simp (disch := first | omega | (simp only [lnv]; omega)) only [wlk, ↓get_put', ↓reduceIte, seval, f1], by simp (disch := first | omega | (simp only [lnv]; omega)) only [wlk, ↓get_put', ↓reduceIte, seval, f16], by simp (disch := first | omega | (simp only [lnv]; omega)) only [wlk, ↓get_put', ↓reduceIte, seval, f17], by simp (disch := first | omega | (simp only [lnv]; omega)) only [wlk, ↓get_put', ↓reduceIte, seval, f18]; rfl, by rw [upsT_succ, hup, hu]; rfl, st5⟩
 · have d4 : ((0 : Int) < (i : Int)) = True := eq_true (by omega)
   have ei : ((i : Int) - 1).toNat = i - 1 := by omega
   by_cases hlt : (e.come.getD (i - 1) default).id < (e.come.getD i default).id
   · have hu : upT e.come i = true := by unfold upT; rw [hb, decide_eq_true hlt, Bool.or_true]; rfl
     have d5 : ((e.come.getD i default).id ≤ (e.come.getD (i - 1) default).id) = False := eq_false (by omega)
     repeat' (first
       | refine St.h ?_
       | simp (disch := first | omega | (simp only [lnv]; omega)) only [wlk, ↓get_put', ↓reduceIte, seval, f1, f16, f17, f18, d4, d5, ei, q5.l1, r5.l1, a5.2.ix, a5.2.l0, Int.toNat_natCast]
       | (with_reducible (first | apply cd_split | apply gd_split)) <;> (intro hc; (try simp only [hcn] at hc); (try simp only [hc]); (try simp only [hcl] at hc); try omega))
     exact lp_next hI (e.come.length - (i + 1)) (by omega) ⟨i + 1, rfl, by omega, by simp (disch := first | omega | (simp only [lnv]; omega)) only [wlk, ↓get_put', ↓reduceIte, seval, f1], by simp (disch := first | omega | (simp only [lnv]; omega)) only [wlk, ↓get_put', ↓reduceIte, seval, f16], by simp (disch := first | omega | (simp only [lnv]; omega)) only [wlk, ↓get_put', ↓reduceIte, seval, f17], by simp (disch := first | omega | (simp only [lnv]; omega)) only [wlk, ↓get_put', ↓reduceIte, seval, f18]; rfl, by rw [upsT_succ, hup, hu]; rfl, st5⟩
   · have hu : upT e.come i = false := by unfold upT; rw [hb, decide_eq_false hlt, decide_eq_false h0]; rfl
     have d5 : ((e.come.getD i default).id ≤ (e.come.getD (i - 1) default).id) = True := eq_true (by omega)
     repeat' (first
       | refine St.h ?_
       | simp (disch := first | omega | (simp only [lnv]; omega)) only [wlk, ↓get_put', ↓reduceIte, seval, f1, f16, f17, f18, d4, d5, ei, q5.l1, r5.l1, a5.2.ix, a5.2.l0, Int.toNat_natCast]
       | (with_reducible (first | apply cd_split | apply gd_split)) <;> (intro hc; (try simp only [hcn] at hc); (try simp only [hc]); (try simp only [hcl] at hc); try omega))
     subst hQ
     exact ⟨congrArg V.b (fin _ (no hu)).symm, s1.trans st5⟩
def ShP (h : H) (b : B) (v : V) (S : Sht) : Prop := Ev.Own h b [v, .i .i64 S.log, .i .i64 S.seq, .i .i64 S.next] ∧ Tbs h v S.L ∧ ∀ q, isOf v q → q ≠ b
theorem ShP.grow {h h' : H} {b : B} {v : V} {S : Sht} (a : ShP h b v S) (s : Stay nowhere h h') : ShP h' b v S := ⟨a.1.stay s fun e => e, a.2.1.grow s, a.2.2⟩
theorem ShP.stay {h h' : H} {p : B → Prop} {b : B} {v : V} {S : Sht} (a : ShP h b v S) (s : Stay p h h') (h1 : ¬ p b) (h2 : ∀ q, isOf v q → ¬ p q) : ShP h' b v S := ⟨a.1.stay s h1, Ss.stay a.2.1 s h2, a.2.2⟩
theorem ShP.lt {h : H} {b : B} {v : V} {S : Sht} (a : ShP h b v S) : B.val b < B.val h.next ∧ ∀ q, isOf v q → B.val q < B.val h.next := by
 obtain ⟨⟨blk, h1, h2, h3, h4, h5, h6, h7⟩, a2, a3⟩ := a
 refine ⟨h6, ?_⟩
 rcases a2 with ⟨rfl, _⟩ | ⟨id, g, off, fin, cap, rfl, _, hl, _⟩
 · rintro q ⟨_, _, _, _, _, e⟩; cases e
 · rintro q ⟨_, _, _, _, _, e⟩; cases e; exact hl
theorem snew_ok {h : H} (hf : B.val h.floor ≤ B.val h.next) : FnOk Try.prog 10 [] h fun y h' => y = .p h.next 0 0 4 ∧ ShP h' h.next .l0 shtZ ∧ B.val h'.next = B.val h.next + 1 ∧ Stay nowhere h h' := by
 refine fn_go c10 (by intro hb; cases hb) (by simp) (by simp) fun Q hQ => ?_
 simp only [slotsF, Nat.reduceAdd]
 repeat' (first
   | refine St.h ?_
   | simp (disch := first | omega | (simp only [lnv]; omega)) only [wlk, ↓get_put', ↓reduceIte, seval]
   | (with_reducible (first | apply cd_split | apply gd_split)) <;> (intro hc; (try simp only [hcn] at hc); (try simp only [hc]); (try simp only [hcl] at hc); try omega))
 refine AL.own (by simp) hf fun h1 s1 n1 o1 => ?_
 repeat' (first
   | refine St.h ?_
   | simp (disch := first | omega | (simp only [lnv]; omega)) only [wlk, ↓get_put', ↓reduceIte, seval]
   | (with_reducible (first | apply cd_split | apply gd_split)) <;> (intro hc; (try simp only [hcn] at hc); (try simp only [hc]); (try simp only [hcl] at hc); try omega))
 subst hQ
 exact ⟨rfl, ⟨o1, Ss.nil, by rintro q ⟨_, _, _, _, _, e⟩; cases e⟩, n1, s1⟩
section
variable {h : H} {b : B} {v : V} {S : Sht}
theorem stabs_ok (a : ShP h b v S) (hl : S.L.length ≤ 1000) (hf : B.val h.floor ≤ B.val h.next) : FnOk Try.prog 22 [.p b 0 0 4] h fun y h' => Rt h' y S.L ∧ (∀ q, isOf y q → B.val h.next ≤ B.val q) ∧ Stay nowhere h h' := by
 have r := a.1.row
 refine fn_go c22 (by intro hb; cases hb) (by simp) (by simp) fun Q hQ => ?_
 simp only [slotsF, Nat.reduceAdd]
 repeat' (first
   | refine St.h ?_
   | simp (disch := first | omega | (simp only [lnv]; omega)) only [wlk, ↓get_put', ↓reduceIte, seval, r.l1]
   | (with_reducible (first | apply cd_split | apply gd_split)) <;> (intro hc; (try simp only [hcn] at hc); (try simp only [hc]); (try simp only [hcl] at hc); try omega))
 refine CL.mk (cloneT_ok a.2.1 hl hf) ?_
 rintro y h1 ⟨r1, r2, r3⟩
 repeat' (first
   | refine St.h ?_
   | simp (disch := first | omega | (simp only [lnv]; omega)) only [wlk, ↓get_put', ↓reduceIte, seval]
   | (with_reducible (first | apply cd_split | apply gd_split)) <;> (intro hc; (try simp only [hcn] at hc); (try simp only [hc]); (try simp only [hcl] at hc); try omega))
 subst hQ
 exact ⟨r1, r2, r3⟩
theorem push_t {h : H} {u : V} {M : List Tbl} {x : Tbl} {id : B} {N : Nx} (rb : Rt h u M) (o : Ev.Own h id (tblC x)) (hl : M.length ≤ 10000) (hf : B.val h.floor ≤ B.val h.next)
   (k : ∀ u' h', Rt h' u' (M ++ [x]) → Stay (isOf u) h h' → (∀ i, isOf u' i → isOf u i ∨ B.val h.next ≤ B.val i) → N.go Try.prog u' h') : AP Try.prog 32 5 u (.l id 0 0 1 5 (some 1)) h N :=
 AP.gr (X := [x]) rb tblC_len (by omega) (fun k => by
   have := new_row (size := 5) (cnt := 1) (fin := 5) (cap := some 1) o.row rfl (Nat.le_refl _) (by omega) (by show 5 ≤ 5; omega) k
   rw [this]; simp [List.flatMap_cons]) (allT _) (by simp) (by simp; omega) hf k
theorem stier_ok {k : Int} (a : ShP h b v S) (hl : S.L.length ≤ 1000) (hf : B.val h.floor ≤ B.val h.next) : FnOk Try.prog 24 [.p b 0 0 4, .i .i64 k] h fun y h' => Tbs h' y (S.L.filter fun t => decide (t.tier = k)) ∧ Stay nowhere h h' := by
 have r := a.1.row
 have filt : ∀ j, j < S.L.length → (S.L.take (j + 1)).filter (fun t => decide (t.tier = k)) = (S.L.take j).filter (fun t => decide (t.tier = k)) ++ (if (S.L.getD j default).tier = k then [S.L.getD j default] else []) := fun j hj => by
   have : S.L.take (j + 1) = S.L.take j ++ [S.L.getD j default] := by rw [List.take_succ]; simp [List.getD, hj]
   rw [this, List.filter_append]
   by_cases hb : (S.L.getD j default).tier = k
   · rw [List.filter_cons, decide_eq_true hb, if_pos hb]; rfl
   · rw [List.filter_cons, decide_eq_false hb, if_neg hb]; rfl
 refine fn_go c24 (by intro hb; cases hb) (by simp) (by simp) fun Q hQ => ?_
 simp only [slotsF, Nat.reduceAdd]
 repeat' (first
   | refine St.h ?_
   | simp (disch := first | omega | (simp only [lnv]; omega)) only [wlk, ↓get_put', ↓reduceIte, seval, r.l1, a.2.1.ln]
   | (with_reducible (first | apply cd_split | apply gd_split)) <;> (intro hc; (try simp only [hcn] at hc); (try simp only [hc]); (try simp only [hcl] at hc); try omega))
 refine Ok.lp (fun m t g => ∃ (i : Nat) (u : V), m = S.L.length - i ∧ i ≤ S.L.length ∧ get 1 t = .i .i64 k ∧ get 5 t = u ∧ get 11 t = v ∧ get 12 t = .i .i64 (S.L.length : Int) ∧ get 13 t = .i .i64 (i : Int) ∧ Rt g u ((S.L.take i).filter fun t => decide (t.tier = k)) ∧ (∀ q, isOf u q → B.val h.next ≤ B.val q) ∧ Stay nowhere h g) S.L.length ?_ ?_
 · simp (disch := first | omega | (simp only [lnv]; omega)) only [wlk, ↓get_put', ↓reduceIte, seval]
   refine ⟨0, .l0, by omega, by omega, ?_⟩
   refine ⟨?_, ?_, ?_, ?_, ?_, Gr.nil, ?_, Stay.refl _ _⟩
   rotate_right
   · rintro i ⟨_, _, _, _, _, e⟩; cases e
   all_goals first | trivial | rfl
 rintro I hI m t g ⟨i, u, rfl, hi, f1, f5, f11, f12, f13, bu, own, st⟩
 have hfg := st.fl hf
 have Lg := a.2.1.grow st
 by_cases hil : i < S.L.length
 case neg =>
   obtain rfl : i = S.L.length := by omega
   rw [List.take_length] at bu
   have d1 : ((S.L.length : Int) < (S.L.length : Int)) = False := eq_false (by omega)
   repeat' (first
     | refine St.h ?_
     | simp (disch := first | omega | (simp only [lnv]; omega)) only [wlk, ↓get_put', ↓reduceIte, seval, f1, f5, f11, f12, f13, d1]
     | (with_reducible (first | apply cd_split | apply gd_split)) <;> (intro hc; (try simp only [hcn] at hc); (try simp only [hc]); (try simp only [hcl] at hc); try omega))
   subst hQ
   exact ⟨bu.tbs, st⟩
 have d1 : ((i : Int) < (S.L.length : Int)) = True := eq_true (by omega)
 repeat' (first
   | refine St.h ?_
   | simp (disch := first | omega | (simp only [lnv]; omega)) only [wlk, ↓get_put', ↓reduceIte, seval, f1, f5, f11, f12, f13, d1, Lg.ix, Lg.la, Int.toNat_natCast]
   | (with_reducible (first | apply cd_split | apply gd_split)) <;> (intro hc; (try simp only [hcn] at hc); (try simp only [hc]); (try simp only [hcl] at hc); try omega))
 refine AL.own (by simp) hfg fun g1 t1 _ o1 => ?_
 have hf1 := t1.fl hfg
 repeat' (first
   | refine St.h ?_
   | simp (disch := first | omega | (simp only [lnv]; omega)) only [wlk, ↓get_put', ↓reduceIte, seval, f1, f5, f11, f12, f13]
   | (with_reducible (first | apply cd_split | apply gd_split)) <;> (intro hc; (try simp only [hcn] at hc); (try simp only [hc]); (try simp only [hcl] at hc); try omega))
 refine ST.all o1 rfl rfl (by simp) (by simp) fun g2 o2 t2 => ?_
 have tt : Stay nowhere g g2 := t1.past' t2 fun q hq => by rw [hq]; exact Nat.le_refl _
 have hf2 := tt.fl hfg
 have b2 := bu.grow tt
 have r2 := o2.row
 have hlen : ((S.L.take i).filter fun t => decide (t.tier = k)).length ≤ 1000 := by
   have := List.length_filter_le (fun t : Tbl => decide (t.tier = k)) (S.L.take i)
   rw [List.length_take] at this; omega
 by_cases hk : (S.L.getD i default).tier = k
 · have d2 := eq_true hk
   repeat' (first
     | refine St.h ?_
     | simp (disch := first | omega | (simp only [lnv]; omega)) only [wlk, ↓get_put', ↓reduceIte, seval, f1, f5, f11, f12, f13, d2, r2.l1, r2.ln]
     | (with_reducible (first | apply cd_split | apply gd_split)) <;> (intro hc; (try simp only [hcn] at hc); (try simp only [hc]); (try simp only [hcl] at hc); try omega))
   refine AL.own (by simp) hf2 fun g3 t3 _ o3 => ?_
   repeat' (first
     | refine St.h ?_
     | simp (disch := first | omega | (simp only [lnv]; omega)) only [wlk, ↓get_put', ↓reduceIte, seval, f1, f5, f11, f12, f13]
     | (with_reducible (first | apply cd_split | apply gd_split)) <;> (intro hc; (try simp only [hcn] at hc); (try simp only [hc]); (try simp only [hcl] at hc); try omega))
   refine push_t (x := S.L.getD i default) (b2.grow t3) o3 (by omega) (t3.fl hf2) fun u4 g4 b4 t4 own4 => ?_
   repeat' (first
     | refine St.h ?_
     | simp (disch := first | omega | (simp only [lnv]; omega)) only [wlk, ↓get_put', ↓reduceIte, seval, f1, f5, f11, f12, f13]
     | (with_reducible (first | apply cd_split | apply gd_split)) <;> (intro hc; (try simp only [hcn] at hc); (try simp only [hc]); (try simp only [hcl] at hc); try omega))
   refine lp_next hI (S.L.length - (i + 1)) (by omega) ⟨i + 1, u4, rfl, by omega, by simp (disch := first | omega | (simp only [lnv]; omega)) only [wlk, ↓get_put', ↓reduceIte, seval, f1], by simp (disch := first | omega | (simp only [lnv]; omega)) only [wlk, ↓get_put', ↓reduceIte, seval], by simp (disch := first | omega | (simp only [lnv]; omega)) only [wlk, ↓get_put', ↓reduceIte, seval, f11], by simp (disch := first | omega | (simp only [lnv]; omega)) only [wlk, ↓get_put', ↓reduceIte, seval, f12], by simp (disch := first | omega | (simp only [lnv]; omega)) only [wlk, ↓get_put', ↓reduceIte, seval, f13]; rfl, by rw [filt i hil, if_pos hk]; exact b4, fun q hq => ?_, (st.trans (tt.trans t3)).past' t4 fun q hq => own q hq⟩
   rcases own4 q hq with h5 | h5
   · exact own q h5
   · exact Nat.le_trans (st.trans (tt.trans t3)).next h5
 · have d2 := eq_false hk
   repeat' (first
     | refine St.h ?_
     | simp (disch := first | omega | (simp only [lnv]; omega)) only [wlk, ↓get_put', ↓reduceIte, seval, f1, f5, f11, f12, f13, d2, r2.l1, r2.ln]
     | (with_reducible (first | apply cd_split | apply gd_split)) <;> (intro hc; (try simp only [hcn] at hc); (try simp only [hc]); (try simp only [hcl] at hc); try omega))
   exact lp_next hI (S.L.length - (i + 1)) (by omega) ⟨i + 1, u, rfl, by omega, by simp (disch := first | omega | (simp only [lnv]; omega)) only [wlk, ↓get_put', ↓reduceIte, seval, f1], by simp (disch := first | omega | (simp only [lnv]; omega)) only [wlk, ↓get_put', ↓reduceIte, seval, f5], by simp (disch := first | omega | (simp only [lnv]; omega)) only [wlk, ↓get_put', ↓reduceIte, seval, f11], by simp (disch := first | omega | (simp only [lnv]; omega)) only [wlk, ↓get_put', ↓reduceIte, seval, f12], by simp (disch := first | omega | (simp only [lnv]; omega)) only [wlk, ↓get_put', ↓reduceIte, seval, f13]; rfl, by rw [filt i hil, if_neg hk, List.append_nil]; exact b2, own, st.trans tt⟩
end
end Go.Proofs.Ytclpemggclmgeaa

set_option maxRecDepth 100000
set_option maxHeartbeats 8000000
set_option linter.all false
namespace Go.Ev
open Go
theorem Tbs.ix0 {P : Program} {h g' : H} {N : Nx} {v : V} {L : List Tbl} (a : Tbs h v L) (hi : 0 < L.length) : IX P 5 v 0 g' N = N.go P (.p (lid v) (lg v) (loff v) (lfin v)) g' := by have := a.ix (P := P) (N := N) (g' := g') hi; rwa [Nat.zero_mul, Nat.add_zero] at this
theorem Tbs.l00 {P : Program} {h : H} {N : Nx} {v : V} {L : List Tbl} (a : Tbs h v L) (hi : 0 < L.length) : L1 P (lid v) (lg v) (loff v) (lfin v) h N = N.go P (.i .i64 (L.getD 0 default).id) h := by have := a.l0 (P := P) (N := N) hi; rwa [Nat.zero_mul, Nat.add_zero] at this
end Go.Ev
namespace Go.Proofs.Ytclpemggclmgeaa
open Go Go.Ev
section
variable {h : H} {b : B} {v g c : V} {S : Sht} {e : Edt}
theorem hasB_ok {q : B} {x : Int} {t : Tbl} (o : Ev.Own h q [.i .i64 x]) (hf : B.val h.floor ≤ B.val h.next) : FnOk Try.prog 44 [.a [.i .i64 t.id, .i .i64 t.tier, sv t.fst, sv t.lst, .i .i64 t.cnt], .p q 0 0 1] h fun y h' => y = .b (decide (t.id = x)) ∧ Stay nowhere h h' := by
 refine fn_go c44 (by intro hb; cases hb) (by simp) (by simp) fun Q hQ => ?_
 simp only [slotsF, Nat.reduceAdd]
 repeat' (first
   | refine St.h ?_
   | simp (disch := first | omega | (simp only [lnv]; omega)) only [wlk, ↓get_put', ↓reduceIte, seval]
   | (with_reducible (first | apply cd_split | apply gd_split)) <;> (intro hc; (try simp only [hcn] at hc); (try simp only [hc]); (try simp only [hcl] at hc); try omega))
 refine AL.own (by simp) hf fun h1 s1 n1 o1 => ?_
 have r1 := o1.row
 have q1 := (o.stay s1 fun e => e).row
 repeat' (first
   | refine St.h ?_
   | simp (disch := first | omega | (simp only [lnv]; omega)) only [wlk, ↓get_put', ↓reduceIte, seval, r1.l1, q1.l1]
   | (with_reducible (first | apply cd_split | apply gd_split)) <;> (intro hc; (try simp only [hcn] at hc); (try simp only [hc]); (try simp only [hcl] at hc); try omega))
 subst hQ
 exact ⟨rfl, s1⟩
theorem hasall_ok {xs : List Int} (a : ShP h b v S) (hg : Il h g xs) (hx : xs.length ≤ 1000) (hl : S.L.length ≤ 1000) (hf : B.val h.floor ≤ B.val h.next) : FnOk Try.prog 26 [.p b 0 0 4, g] h fun y h' => y = .b (hasT S.L xs) ∧ Stay nowhere h h' := by
 refine fn_go c26 (by intro hb; cases hb) (by simp) (by simp) fun Q hQ => ?_
 simp only [slotsF, Nat.reduceAdd]
 repeat' (first
   | refine St.h ?_
   | simp (disch := first | omega | (simp only [lnv]; omega)) only [wlk, ↓get_put', ↓reduceIte, seval, hg.ln]
   | (with_reducible (first | apply cd_split | apply gd_split)) <;> (intro hc; (try simp only [hcn] at hc); (try simp only [hc]); (try simp only [hcl] at hc); try omega))
 refine Ok.lp (fun m t g' => ∃ i : Nat, m = xs.length - i ∧ i ≤ xs.length ∧ get 0 t = .p b 0 0 4 ∧ get 7 t = g ∧ get 8 t = .i .i64 (xs.length : Int) ∧ get 9 t = .i .i64 (i : Int) ∧ (∀ k, k < i → S.L.any (fun t => decide (t.id = xs.getD k 0)) = true) ∧ Stay nowhere h g') xs.length ?_ ?_
 · simp (disch := first | omega | (simp only [lnv]; omega)) only [wlk, ↓get_put', ↓reduceIte, seval]
   refine ⟨0, by omega, by omega, ?_⟩
   refine ⟨?_, ?_, ?_, ?_, fun k hk => by omega, Stay.refl _ _⟩
   all_goals first | trivial | rfl
 rintro I hI m t g2 ⟨i, rfl, hi, f0, f7, f8, f9, hall, st⟩
 have a2 := a.grow st
 have q2 := a2.1.row
 have hg2 := hg.grow st
 have hf2 := st.fl hf
 by_cases hil : i < xs.length
 case neg =>
   obtain rfl : i = xs.length := by omega
   have d1 : ((xs.length : Int) < (xs.length : Int)) = False := eq_false (by omega)
   repeat' (first
     | refine St.h ?_
     | simp (disch := first | omega | (simp only [lnv]; omega)) only [wlk, ↓get_put', ↓reduceIte, seval, f0, f7, f8, f9, d1]
     | (with_reducible (first | apply cd_split | apply gd_split)) <;> (intro hc; (try simp only [hcn] at hc); (try simp only [hc]); (try simp only [hcl] at hc); try omega))
   subst hQ
   refine ⟨congrArg V.b (Eq.symm (List.all_eq_true.2 fun x hx => ?_)), st⟩
   obtain ⟨k, hk, rfl⟩ := List.mem_iff_getElem.1 hx
   have := hall k hk
   rwa [List.getD_eq_getElem?_getD, List.getElem?_eq_getElem hk] at this
 have d1 : ((i : Int) < (xs.length : Int)) = True := eq_true (by omega)
 repeat' (first
   | refine St.h ?_
   | simp (disch := first | omega | (simp only [lnv]; omega)) only [wlk, ↓get_put', ↓reduceIte, seval, f0, f7, f8, f9, d1, hg2.ix, hg2.ld, Int.toNat_natCast]
   | (with_reducible (first | apply cd_split | apply gd_split)) <;> (intro hc; (try simp only [hcn] at hc); (try simp only [hc]); (try simp only [hcl] at hc); try omega))
 refine AL.own (by simp) hf2 fun g3 s3 n3 o3 => ?_
 have hf3 := s3.fl hf2
 repeat' (first
   | refine St.h ?_
   | simp (disch := first | omega | (simp only [lnv]; omega)) only [wlk, ↓get_put', ↓reduceIte, seval, f0, f7, f8, f9]
   | (with_reducible (first | apply cd_split | apply gd_split)) <;> (intro hc; (try simp only [hcn] at hc); (try simp only [hc]); (try simp only [hcl] at hc); try omega))
 refine ST.all o3 rfl rfl (by simp) (by simp) fun g4 o4 s4 => ?_
 have s34 : Stay nowhere g2 g4 := s3.past' s4 fun q e => by rw [e]; exact Nat.le_refl _
 have hf4 := s34.fl hf2
 have a4 := a2.grow s34
 have q4 := a4.1.row
 repeat' (first
   | refine St.h ?_
   | simp (disch := first | omega | (simp only [lnv]; omega)) only [wlk, ↓get_put', ↓reduceIte, seval, f0, f7, f8, f9, q4.l1]
   | (with_reducible (first | apply cd_split | apply gd_split)) <;> (intro hc; (try simp only [hcn] at hc); (try simp only [hc]); (try simp only [hcl] at hc); try omega))
 refine CL.stay (contf_ok (P := fun t => decide (t.id = xs.getD i 0)) a4.2.1 hl hf4 fun k t sk ht => hasB_ok (o4.stay sk fun e => e) (sk.fl hf4)) fun g5 s5 => ?_
 have st5 := st.trans (s34.trans s5)
 cases hb : S.L.any (fun t => decide (t.id = xs.getD i 0)) with
 | false =>
   repeat' (first
     | refine St.h ?_
     | simp (disch := first | omega | (simp only [lnv]; omega)) only [wlk, ↓get_put', ↓reduceIte, seval, f0, f7, f8, f9]
     | (with_reducible (first | apply cd_split | apply gd_split)) <;> (intro hc; (try simp only [hcn] at hc); (try simp only [hc]); (try simp only [hcl] at hc); try omega))
   subst hQ
   refine ⟨congrArg V.b (Eq.symm (List.all_eq_false.2 ⟨xs.getD i 0, ?_, by rw [hb]; simp⟩)), st5⟩
   simp [List.getD, hil]
 | true =>
   repeat' (first
     | refine St.h ?_
     | simp (disch := first | omega | (simp only [lnv]; omega)) only [wlk, ↓get_put', ↓reduceIte, seval, f0, f7, f8, f9]
     | (with_reducible (first | apply cd_split | apply gd_split)) <;> (intro hc; (try simp only [hcn] at hc); (try simp only [hc]); (try simp only [hcl] at hc); try omega))
   refine lp_next hI (xs.length - (i + 1)) (by omega) ⟨i + 1, rfl, by omega, by simp (disch := first | omega | (simp only [lnv]; omega)) only [wlk, ↓get_put', ↓reduceIte, seval, f0], by simp (disch := first | omega | (simp only [lnv]; omega)) only [wlk, ↓get_put', ↓reduceIte, seval, f7], by simp (disch := first | omega | (simp only [lnv]; omega)) only [wlk, ↓get_put', ↓reduceIte, seval, f8], by simp (disch := first | omega | (simp only [lnv]; omega)) only [wlk, ↓get_put', ↓reduceIte, seval, f9]; rfl, fun k k1 => ?_, st5⟩
   by_cases e : k = i
   · rw [e]; exact hb
   · exact hall k (by omega)
theorem past_ok (a : ShP h b v S) (m : EdM h g c e) (hf : B.val h.floor ≤ B.val h.next) : FnOk Try.prog 27 [.p b 0 0 4, .a [g, c, .i .i64 e.log, .i .i64 e.seq]] h fun y h' => y = .b (pastT S e) ∧ Stay nowhere h h' := by
 refine fn_go c27 (by intro hb; cases hb) (by simp) (by simp) fun Q hQ => ?_
 simp only [slotsF, Nat.reduceAdd]
 repeat' (first
   | refine St.h ?_
   | simp (disch := first | omega | (simp only [lnv]; omega)) only [wlk, ↓get_put', ↓reduceIte, seval]
   | (with_reducible (first | apply cd_split | apply gd_split)) <;> (intro hc; (try simp only [hcn] at hc); (try simp only [hc]); (try simp only [hcl] at hc); try omega))
 refine AL.own (by simp) hf fun h1 s1 n1 o1 => ?_
 have r1 := o1.row
 have q1 := (a.grow s1).1.row
 have m1 := m.grow s1
 have k0 : ((0 : Int) < (e.come.length : Int)) = (0 < e.come.length) := propext (by omega)
 have hp : pastT S e = true ↔ ((0 < e.come.length ∧ (e.come.getD 0 default).id < S.next) ∨ (0 < e.log ∧ e.log < S.log) ∨ (0 < e.seq ∧ e.seq < S.seq)) := by
   unfold pastT; rw [Bool.or_eq_true, Bool.or_eq_true, Bool.and_eq_true, Bool.and_eq_true, Bool.and_eq_true]; simp only [decide_eq_true_eq]; omega
 repeat' (first
   | refine St.h ?_
   | simp (disch := first | omega | (simp only [lnv]; omega)) only [wlk, ↓get_put', ↓reduceIte, seval, r1.l1, q1.l1, m1.2.ln, k0, m1.2.ix0, m1.2.l00]
   | (with_reducible (first | apply cd_split | apply gd_split)) <;> (intro hc; (try simp only [hcn] at hc); (try simp only [hc]); (try simp only [hcl] at hc); try omega))
 all_goals
   subst hQ
   refine ⟨congrArg V.b ?_, s1⟩
   rw [Bool.eq_iff_iff, hp]
   generalize (e.come.getD 0 default).id = x at *
   simp
   omega
theorem behB_ok {q : B} {x y : V} {xs : List Int} {t : Tbl} (o : Ev.Own h q [g, c, x, y]) (hg : Il h g xs) (hx : xs.length ≤ 1000) (hf : B.val h.floor ≤ B.val h.next) : FnOk Try.prog 46 [.a [.i .i64 t.id, .i .i64 t.tier, sv t.fst, sv t.lst, .i .i64 t.cnt], .p q 0 0 4] h fun y h' => y = .b (goneB xs t.id) ∧ Stay nowhere h h' := by
 refine fn_go c46 (by intro hb; cases hb) (by simp) (by simp) fun Q hQ => ?_
 simp only [slotsF, Nat.reduceAdd]
 repeat' (first
   | refine St.h ?_
   | simp (disch := first | omega | (simp only [lnv]; omega)) only [wlk, ↓get_put', ↓reduceIte, seval]
   | (with_reducible (first | apply cd_split | apply gd_split)) <;> (intro hc; (try simp only [hcn] at hc); (try simp only [hc]); (try simp only [hcl] at hc); try omega))
 refine AL.own (by simp) hf fun h1 s1 n1 o1 => ?_
 have r1 := o1.row
 have q1 := (o.stay s1 fun e => e).row
 repeat' (first
   | refine St.h ?_
   | simp (disch := first | omega | (simp only [lnv]; omega)) only [wlk, ↓get_put', ↓reduceIte, seval, r1.l1, q1.l1]
   | (with_reducible (first | apply cd_split | apply gd_split)) <;> (intro hc; (try simp only [hcn] at hc); (try simp only [hc]); (try simp only [hcl] at hc); try omega))
 refine CL.pure (contI_ok (hg.grow s1) hx) ?_
 repeat' (first
   | refine St.h ?_
   | simp (disch := first | omega | (simp only [lnv]; omega)) only [wlk, ↓get_put', ↓reduceIte, seval]
   | (with_reducible (first | apply cd_split | apply gd_split)) <;> (intro hc; (try simp only [hcn] at hc); (try simp only [hc]); (try simp only [hcl] at hc); try omega))
 subst hQ
 exact ⟨rfl, s1⟩
theorem meet_ok {u : V} {M : List Tbl} (hM : Tbs h u M) (hl : M.length ≤ 1000) (hf : B.val h.floor ≤ B.val h.next) : FnOk Try.prog 29 [u] h fun y h' => y = .b (meetsB M) ∧ Stay nowhere h h' := by
 refine fn_go c29 (by intro hb; cases hb) (by simp) (by simp) fun Q hQ => ?_
 simp only [slotsF, Nat.reduceAdd]
 repeat' (first
   | refine St.h ?_
   | simp (disch := first | omega | (simp only [lnv]; omega)) only [wlk, ↓get_put', ↓reduceIte, seval, hM.ln]
   | (with_reducible (first | apply cd_split | apply gd_split)) <;> (intro hc; (try simp only [hcn] at hc); (try simp only [hc]); (try simp only [hcl] at hc); try omega))
 refine Ok.lp (fun m t g' => ∃ i : Nat, m = M.length - i ∧ i ≤ M.length ∧ get 0 t = u ∧ get 5 t = u ∧ get 6 t = .i .i64 (M.length : Int) ∧ get 7 t = .i .i64 (i : Int) ∧ (∀ k, k < i → adjM M k = false) ∧ Stay nowhere h g') M.length ?_ ?_
 · simp (disch := first | omega | (simp only [lnv]; omega)) only [wlk, ↓get_put', ↓reduceIte, seval]
   refine ⟨0, by omega, by omega, ?_⟩
   refine ⟨?_, ?_, ?_, ?_, fun k hk => by omega, Stay.refl _ _⟩
   all_goals first | trivial | rfl
 rintro I hI m t g2 ⟨i, rfl, hi, f0, f5, f6, f7, hall, st⟩
 have M2 := hM.grow st
 have hf2 := st.fl hf
 by_cases hil : i < M.length
 case neg =>
   obtain rfl : i = M.length := by omega
   have d1 : ((M.length : Int) < (M.length : Int)) = False := eq_false (by omega)
   repeat' (first
     | refine St.h ?_
     | simp (disch := first | omega | (simp only [lnv]; omega)) only [wlk, ↓get_put', ↓reduceIte, seval, f0, f5, f6, f7, d1]
     | (with_reducible (first | apply cd_split | apply gd_split)) <;> (intro hc; (try simp only [hcn] at hc); (try simp only [hc]); (try simp only [hcl] at hc); try omega))
   subst hQ
   refine ⟨congrArg V.b (Eq.symm (List.any_eq_false.2 fun k hk => ?_)), st⟩
   rw [hall k (List.mem_range.1 hk)]; simp
 have d1 : ((i : Int) < (M.length : Int)) = True := eq_true (by omega)
 repeat' (first
   | refine St.h ?_
   | simp (disch := first | omega | (simp only [lnv]; omega)) only [wlk, ↓get_put', ↓reduceIte, seval, f0, f5, f6, f7, d1, M2.ix, M2.la, Int.toNat_natCast]
   | (with_reducible (first | apply cd_split | apply gd_split)) <;> (intro hc; (try simp only [hcn] at hc); (try simp only [hc]); (try simp only [hcl] at hc); try omega))
 refine AL.own (by simp) hf2 fun g3 s3 n3 o3 => ?_
 have hf3 := s3.fl hf2
 repeat' (first
   | refine St.h ?_
   | simp (disch := first | omega | (simp only [lnv]; omega)) only [wlk, ↓get_put', ↓reduceIte, seval, f0, f5, f6, f7]
   | (with_reducible (first | apply cd_split | apply gd_split)) <;> (intro hc; (try simp only [hcn] at hc); (try simp only [hc]); (try simp only [hcl] at hc); try omega))
 refine ST.all o3 rfl rfl (by simp) (by simp) fun g4 o4 s4 => ?_
 have s34 : Stay nowhere g2 g4 := s3.past' s4 fun q e => by rw [e]; exact Nat.le_refl _
 have st4 := st.trans s34
 have M4 := hM.grow st4
 have r4 := o4.row
 have yes : adjM M i = true → meetsB M = true := fun hx => List.any_eq_true.2 ⟨i, List.mem_range.2 hil, hx⟩
 have nxt : adjM M i = false → ∀ k, k < i + 1 → adjM M k = false := fun hx k k1 => by
   by_cases e : k = i
   · rw [e]; exact hx
   · exact hall k (by omega)
 by_cases h0 : i = 0
 · have d4 : ((0 : Int) < (i : Int)) = False := eq_false (by omega)
   have ha : adjM M i = false := by unfold adjM; rw [decide_eq_false (by omega)]; rfl
   repeat' (first
     | refine St.h ?_
     | simp (disch := first | omega | (simp only [lnv]; omega)) only [wlk, ↓get_put', ↓reduceIte, seval, f0, f5, f6, f7, d4]
     | (with_reducible (first | apply cd_split | apply gd_split)) <;> (intro hc; (try simp only [hcn] at hc); (try simp only [hc]); (try simp only [hcl] at hc); try omega))
   exact lp_next hI (M.length - (i + 1)) (by omega) ⟨i + 1, rfl, by omega, by simp (disch := first | omega | (simp only [lnv]; omega)) only [wlk, ↓get_put', ↓reduceIte, seval, f0], by simp (disch := first | omega | (simp only [lnv]; omega)) only [wlk, ↓get_put', ↓reduceIte, seval, f5], by simp (disch := first | omega | (simp only [lnv]; omega)) only [wlk, ↓get_put', ↓reduceIte, seval, f6], by simp (disch := first | omega | (simp only [lnv]; omega)) only [wlk, ↓get_put', ↓reduceIte, seval, f7]; rfl, nxt ha, st4⟩
 have d4 : ((0 : Int) < (i : Int)) = True := eq_true (by omega)
 have ei : ((i : Int) - 1).toNat = i - 1 := by omega
 by_cases h1 : (M.getD (i - 1) default).tier = 1
 · have d5 := eq_true h1
   cases hb : (Op.bytesLess (M.getD i default).fst (M.getD (i - 1) default).lst || decide ((M.getD i default).fst = (M.getD (i - 1) default).lst)) with
   | true =>
     have ha : adjM M i = true := by unfold adjM; rw [decide_eq_true (by omega), decide_eq_true h1, ← le_b, hb]; rfl
     repeat' (first
       | refine St.h ?_
       | simp (disch := first | omega | (simp only [lnv]; omega)) only [wlk, ↓get_put', ↓reduceIte, seval, f0, f5, f6, f7, d4, d5, hb, ei, r4.l1, M4.ix, M4.l1, M4.l3, Int.toNat_natCast]
       | (with_reducible (first | apply cd_split | apply gd_split)) <;> (intro hc; (try simp only [hcn] at hc); (try simp only [hc]); (try simp only [hcl] at hc); try omega))
     subst hQ
     exact ⟨congrArg V.b (yes ha).symm, st4⟩
   | false =>
     have ha : adjM M i = false := by unfold adjM; rw [← le_b, hb, Bool.and_false, Bool.and_false]
     repeat' (first
       | refine St.h ?_
       | simp (disch := first | omega | (simp only [lnv]; omega)) only [wlk, ↓get_put', ↓reduceIte, seval, f0, f5, f6, f7, d4, d5, hb, ei, r4.l1, M4.ix, M4.l1, M4.l3, Int.toNat_natCast]
       | (with_reducible (first | apply cd_split | apply gd_split)) <;> (intro hc; (try simp only [hcn] at hc); (try simp only [hc]); (try simp only [hcl] at hc); try omega))
     exact lp_next hI (M.length - (i + 1)) (by omega) ⟨i + 1, rfl, by omega, by simp (disch := first | omega | (simp only [lnv]; omega)) only [wlk, ↓get_put', ↓reduceIte, seval, f0], by simp (disch := first | omega | (simp only [lnv]; omega)) only [wlk, ↓get_put', ↓reduceIte, seval, f5], by simp (disch := first | omega | (simp only [lnv]; omega)) only [wlk, ↓get_put', ↓reduceIte, seval, f6], by simp (disch := first | omega | (simp only [lnv]; omega)) only [wlk, ↓get_put', ↓reduceIte, seval, f7]; rfl, nxt ha, st4⟩
 · have d5 := eq_false h1
   have ha : adjM M i = false := by unfold adjM; rw [decide_eq_false h1, Bool.false_and, Bool.and_false]
   repeat' (first
     | refine St.h ?_
     | simp (disch := first | omega | (simp only [lnv]; omega)) only [wlk, ↓get_put', ↓reduceIte, seval, f0, f5, f6, f7, d4, d5, ei, r4.l1, M4.ix, M4.l1, M4.l3, Int.toNat_natCast]
     | (with_reducible (first | apply cd_split | apply gd_split)) <;> (intro hc; (try simp only [hcn] at hc); (try simp only [hc]); (try simp only [hcl] at hc); try omega))
   exact lp_next hI (M.length - (i + 1)) (by omega) ⟨i + 1, rfl, by omega, by simp (disch := first | omega | (simp only [lnv]; omega)) only [wlk, ↓get_put', ↓reduceIte, seval, f0], by simp (disch := first | omega | (simp only [lnv]; omega)) only [wlk, ↓get_put', ↓reduceIte, seval, f5], by simp (disch := first | omega | (simp only [lnv]; omega)) only [wlk, ↓get_put', ↓reduceIte, seval, f6], by simp (disch := first | omega | (simp only [lnv]; omega)) only [wlk, ↓get_put', ↓reduceIte, seval, f7]; rfl, nxt ha, st4⟩
theorem behind_ok (a : ShP h b v S) (m : EdM h g c e) (hl : S.L.length ≤ 100) (hgl : e.gone.length ≤ 100) (hcl : e.come.length ≤ 100) (hsz : ∀ t ∈ e.come, t.fst.length ≤ 1000000 ∧ t.lst.length ≤ 1000000) (hf : B.val h.floor ≤ B.val h.next) :
   FnOk Try.prog 28 [.p b 0 0 4, .a [g, c, .i .i64 e.log, .i .i64 e.seq]] h fun y h' => ∃ M : List Tbl, M.Perm (leftT S.L e.gone ++ e.come) ∧ (∀ i j, i < j → j < M.length → ltT (M.getD j default) (M.getD i default) = false) ∧ Rt h' y M ∧ (∀ q, isOf y q → B.val h.next ≤ B.val q) ∧ Stay nowhere h h' := by
 refine fn_go c28 (by intro hb; cases hb) (by simp) (by simp) fun Q hQ => ?_
 simp only [slotsF, Nat.reduceAdd]
 repeat' (first
   | refine St.h ?_
   | simp (disch := first | omega | (simp only [lnv]; omega)) only [wlk, ↓get_put', ↓reduceIte, seval]
   | (with_reducible (first | apply cd_split | apply gd_split)) <;> (intro hc; (try simp only [hcn] at hc); (try simp only [hc]); (try simp only [hcl] at hc); try omega))
 refine AL.own (by simp) hf fun h1 s1 n1 o1 => ?_
 have hf1 := s1.fl hf
 repeat' (first
   | refine St.h ?_
   | simp (disch := first | omega | (simp only [lnv]; omega)) only [wlk, ↓get_put', ↓reduceIte, seval]
   | (with_reducible (first | apply cd_split | apply gd_split)) <;> (intro hc; (try simp only [hcn] at hc); (try simp only [hc]); (try simp only [hcl] at hc); try omega))
 refine CL.mk (stabs_ok (a.grow s1) (by omega) hf1) ?_
 rintro w h2 ⟨w1, w2, s2⟩
 have hf2 := s2.fl hf1
 repeat' (first
   | refine St.h ?_
   | simp (disch := first | omega | (simp only [lnv]; omega)) only [wlk, ↓get_put', ↓reduceIte, seval]
   | (with_reducible (first | apply cd_split | apply gd_split)) <;> (intro hc; (try simp only [hcn] at hc); (try simp only [hc]); (try simp only [hcl] at hc); try omega))
 refine CL.mk (delf_ok (P := fun t => goneB e.gone t.id) w1 (by omega) hf2 fun k t sk ht => ?_) ?_
 · have t1 : Stay nowhere h1 k := s2.past' sk w2
   exact behB_ok (o1.stay t1 fun e => e) (m.1.grow (s1.trans t1)) (by omega) (t1.fl hf1)
 rintro x h3 ⟨x1, x2, s3⟩
 have st3 : Stay nowhere h1 h3 := s2.past' s3 w2
 have q3 := (o1.stay st3 fun e => e).row
 have m3 := m.grow (s1.trans st3)
 repeat' (first
   | refine St.h ?_
   | simp (disch := first | omega | (simp only [lnv]; omega)) only [wlk, ↓get_put', ↓reduceIte, seval, q3.l1, m3.2.ln]
   | (with_reducible (first | apply cd_split | apply gd_split)) <;> (intro hc; (try simp only [hcn] at hc); (try simp only [hc]); (try simp only [hcl] at hc); try omega))
 have hlen : (leftT S.L e.gone).length ≤ 100 := Nat.le_trans (List.length_filter_le _ _) hl
 refine Ok.lp (fun n t g' => ∃ (i : Nat) (u : V), n = e.come.length - i ∧ i ≤ e.come.length ∧ get 5 t = u ∧ get 13 t = c ∧ get 14 t = .i .i64 (e.come.length : Int) ∧ get 15 t = .i .i64 (i : Int) ∧ Rt g' u (leftT S.L e.gone ++ e.come.take i) ∧ (∀ q, isOf u q → B.val h1.next ≤ B.val q) ∧ Stay nowhere h1 g') e.come.length ?_ ?_
 · simp (disch := first | omega | (simp only [lnv]; omega)) only [wlk, ↓get_put', ↓reduceIte, seval]
   refine ⟨0, x, by omega, by omega, ?_⟩
   refine ⟨?_, ?_, ?_, ?_, by rw [List.take_zero, List.append_nil]; exact x1, fun q hq => w2 q (x2 q hq), st3⟩
   all_goals first | trivial | rfl
 rintro I hI mm t g4 ⟨i, u, rfl, hi, f5, f13, f14, f15, bu, own, st⟩
 have m4 := m.grow (s1.trans st)
 have hf4 := st.fl hf1
 by_cases hil : i < e.come.length
 case neg =>
   obtain rfl : i = e.come.length := by omega
   rw [List.take_length] at bu
   have d1 : ((e.come.length : Int) < (e.come.length : Int)) = False := eq_false (by omega)
   repeat' (first
     | refine St.h ?_
     | simp (disch := first | omega | (simp only [lnv]; omega)) only [wlk, ↓get_put', ↓reduceIte, seval, f5, f13, f14, f15, d1]
     | (with_reducible (first | apply cd_split | apply gd_split)) <;> (intro hc; (try simp only [hcn] at hc); (try simp only [hc]); (try simp only [hcl] at hc); try omega))
   refine CL.mk (sortT_ok bu (by rw [List.length_append]; omega) hf4) ?_
   rintro _ g5 ⟨M, pm, so, bM, s5⟩
   repeat' (first
     | refine St.h ?_
     | simp (disch := first | omega | (simp only [lnv]; omega)) only [wlk, ↓get_put', ↓reduceIte, seval, f5, f13, f14, f15]
     | (with_reducible (first | apply cd_split | apply gd_split)) <;> (intro hc; (try simp only [hcn] at hc); (try simp only [hc]); (try simp only [hcl] at hc); try omega))
   subst hQ
   exact ⟨M, pm, so, bM, fun q hq => Nat.le_trans s1.next (own q hq), s1.trans (st.past' s5 own)⟩
 have d1 : ((i : Int) < (e.come.length : Int)) = True := eq_true (by omega)
 repeat' (first
   | refine St.h ?_
   | simp (disch := first | omega | (simp only [lnv]; omega)) only [wlk, ↓get_put', ↓reduceIte, seval, f5, f13, f14, f15, d1, m4.2.ix, m4.2.la, Int.toNat_natCast]
   | (with_reducible (first | apply cd_split | apply gd_split)) <;> (intro hc; (try simp only [hcn] at hc); (try simp only [hc]); (try simp only [hcl] at hc); try omega))
 refine AL.own (by simp) hf4 fun g5 s5 n5 o5 => ?_
 have hf5 := s5.fl hf4
 repeat' (first
   | refine St.h ?_
   | simp (disch := first | omega | (simp only [lnv]; omega)) only [wlk, ↓get_put', ↓reduceIte, seval, f5, f13, f14, f15]
   | (with_reducible (first | apply cd_split | apply gd_split)) <;> (intro hc; (try simp only [hcn] at hc); (try simp only [hc]); (try simp only [hcl] at hc); try omega))
 refine ST.all o5 rfl rfl (by simp) (by simp) fun g6 o6 s6 => ?_
 have s46 : Stay nowhere g4 g6 := s5.past' s6 fun q e => by rw [e]; exact Nat.le_refl _
 have hf6 := s46.fl hf4
 have r6 := o6.row
 obtain ⟨z1, z2⟩ := hsz _ (getD_in hil)
 repeat' (first
   | refine St.h ?_
   | simp (disch := first | omega | (simp only [lnv]; omega)) only [wlk, ↓get_put', ↓reduceIte, seval, f5, f13, f14, f15, r6.l1]
   | (with_reducible (first | apply cd_split | apply gd_split)) <;> (intro hc; (try simp only [hcn] at hc); (try simp only [hc]); (try simp only [hcl] at hc); try omega))
 refine CL.stayU (scloneT_ok z1 (re_fl _)) fun g7 s7 => ?_
 have o7 := o6.stay s7 fun e => e
 have r7 := o7.row
 repeat' (first
   | refine St.h ?_
   | simp (disch := first | omega | (simp only [lnv]; omega)) only [wlk, ↓get_put', ↓reduceIte, seval, f5, f13, f14, f15, r7.l1]
   | (with_reducible (first | apply cd_split | apply gd_split)) <;> (intro hc; (try simp only [hcn] at hc); (try simp only [hc]); (try simp only [hcl] at hc); try omega))
 refine CL.stay (scloneT_ok z2 (s7.fl hf6)) fun g8 s8 => ?_
 have o8 := o7.stay s8 fun e => e
 repeat' (first
   | refine St.h ?_
   | simp (disch := first | omega | (simp only [lnv]; omega)) only [wlk, ↓get_put', ↓reduceIte, seval, f5, f13, f14, f15]
   | (with_reducible (first | apply cd_split | apply gd_split)) <;> (intro hc; (try simp only [hcn] at hc); (try simp only [hc]); (try simp only [hcl] at hc); try omega))
 refine ST.own o8 rfl rfl (by omega) (by omega) fun g9 o9 s9 => ?_
 have o9 : Ev.Own g9 g4.next (tblC (e.come.getD i default)) := o9
 repeat' (first
   | refine St.h ?_
   | simp (disch := first | omega | (simp only [lnv]; omega)) only [wlk, ↓get_put', ↓reduceIte, seval, f5, f13, f14, f15]
   | (with_reducible (first | apply cd_split | apply gd_split)) <;> (intro hc; (try simp only [hcn] at hc); (try simp only [hc]); (try simp only [hcl] at hc); try omega))
 refine ST.own o9 rfl rfl (by omega) (by omega) fun ga oa sa => ?_
 have oa : Ev.Own ga g4.next (tblC (e.come.getD i default)) := oa
 have s4a : Stay nowhere g4 ga := ((s46.trans (s7.trans s8)).past' s9 fun q e => by rw [e]; exact Nat.le_refl _).past' sa fun q e => by rw [e]; exact Nat.le_refl _
 have hfa := s4a.fl hf4
 have ra : Row ga g4.next 0 0 [.i .i64 (e.come.getD i default).id, .i .i64 (e.come.getD i default).tier, sv (e.come.getD i default).fst, sv (e.come.getD i default).lst, .i .i64 (e.come.getD i default).cnt] := oa.row
 repeat' (first
   | refine St.h ?_
   | simp (disch := first | omega | (simp only [lnv]; omega)) only [wlk, ↓get_put', ↓reduceIte, seval, f5, f13, f14, f15, ra.ln]
   | (with_reducible (first | apply cd_split | apply gd_split)) <;> (intro hc; (try simp only [hcn] at hc); (try simp only [hc]); (try simp only [hcl] at hc); try omega))
 refine AL.own (by simp) hfa fun gb sb _ ob => ?_
 repeat' (first
   | refine St.h ?_
   | simp (disch := first | omega | (simp only [lnv]; omega)) only [wlk, ↓get_put', ↓reduceIte, seval, f5, f13, f14, f15]
   | (with_reducible (first | apply cd_split | apply gd_split)) <;> (intro hc; (try simp only [hcn] at hc); (try simp only [hc]); (try simp only [hcl] at hc); try omega))
 have l4 : (leftT S.L e.gone ++ e.come.take i).length ≤ 200 := by rw [List.length_append, List.length_take]; omega
 refine push_t (x := e.come.getD i default) ((bu.grow s4a).grow sb) ob (by omega) (sb.fl hfa) fun u4 gc b4 t4 own4 => ?_
 repeat' (first
   | refine St.h ?_
   | simp (disch := first | omega | (simp only [lnv]; omega)) only [wlk, ↓get_put', ↓reduceIte, seval, f5, f13, f14, f15]
   | (with_reducible (first | apply cd_split | apply gd_split)) <;> (intro hc; (try simp only [hcn] at hc); (try simp only [hc]); (try simp only [hcl] at hc); try omega))
 have st4 := st.trans (s4a.trans sb)
 refine lp_next hI (e.come.length - (i + 1)) (by omega) ⟨i + 1, u4, rfl, by omega, by simp (disch := first | omega | (simp only [lnv]; omega)) only [wlk, ↓get_put', ↓reduceIte, seval], by simp (disch := first | omega | (simp only [lnv]; omega)) only [wlk, ↓get_put', ↓reduceIte, seval, f13], by simp (disch := first | omega | (simp only [lnv]; omega)) only [wlk, ↓get_put', ↓reduceIte, seval, f14], by simp (disch := first | omega | (simp only [lnv]; omega)) only [wlk, ↓get_put', ↓reduceIte, seval, f15]; rfl, ?_, fun q hq => ?_, st4.past' t4 fun q hq => own q hq⟩
 · have : e.come.take (i + 1) = e.come.take i ++ [e.come.getD i default] := by rw [List.take_succ]; simp [List.getD, hil]
   rw [this, ← List.append_assoc]; exact b4
 · rcases own4 q hq with h5 | h5
   · exact own q h5
   · exact Nat.le_trans st4.next h5
end
end Go.Proofs.Ytclpemggclmgeaa

set_option linter.all false
namespace Go.Ev
open Go
section
variable {P : Program} {nt : Nat} {ops : Array Oper} {Ts : Nat → F}
def Ops2 (P : Program) : List CO → F → H → H → F → Prop
 | [], t, _, _, t' => t' = t
 | o :: l, t, h, h2, t' => ∃ t1, OpRel P o t h t1 h ∧ OpRel P o t h2 t1 h2 ∧ Ops2 P l t1 h h2 t'
theorem stepOf {nt : Nat} {ops : Array Oper} {i : Nat} {o : Oper} (hi : ops[i]? = some o) {b : Bool} {t t1 : F} {h h1 : H} (a : OpRel P ⟨compG nt ops.toList o.guard, dOf nt o.dst, b, compOp P o.op⟩ t h t1 h1) : StepOk P nt ops i o true t t1 h h1 := by
 have a' : DrRel P ⟨compG nt ops.toList o.guard, dOf nt o.dst, true, compOp P o.op⟩ t h t1 h1 := a
 obtain ⟨cf, hcf, e⟩ := drRel_run a'
 obtain ⟨t1', h1', a1, a2⟩ := dr_step hcf hi (ih := fun t h k => k t h) (k := fun _ _ => true) (e _ _)
 obtain ⟨rfl, rfl⟩ := same_of (fun k => (e (fun t h k => k t h) k).symm.trans (a1 k))
 exact a2
theorem ops2_trace {nt : Nat} {ops : Array Oper} (bars : Nat → Bool) {h h2 : H} : ∀ (l : List Oper) (n : Nat) (rest : List Oper), ops.toList.drop n = l ++ rest → ∀ (t t' : F),
   Ops2 P (compOpsWith bars P nt ops.toList (compOp P) n l) t h h2 t' →
   ∃ Ts : Nat → F, Ts n = t ∧ Ts (n + l.length) = t' ∧ ∀ (i : Nat) o, n ≤ i → i < n + l.length → ops[i]? = some o → StepOk P nt ops i o true (Ts i) (Ts (i + 1)) h h ∧ StepOk P nt ops i o true (Ts i) (Ts (i + 1)) h2 h2 := by
 intro l
 induction l with
 | nil =>
   intro n rest hl t t' hk
   obtain rfl : t' = t := hk
   exact ⟨fun _ => t', rfl, rfl, fun i o h1 h2 => by simp at h2; omega⟩
 | cons o l ih =>
   intro n rest hl t t' hk
   have hn : ops[n]? = some o := by
     have : ops.toList[n]? = some o := by
       have := congrArg (fun l => l[0]?) hl
       simpa using this
     simpa using this
   obtain ⟨t1, k1, k2, k3⟩ := hk
   have hl' : ops.toList.drop (n + 1) = l ++ rest := by rw [← List.drop_drop, hl]; rfl
   obtain ⟨Ts, b1, b2, b3⟩ := ih (n + 1) rest hl' _ _ k3
   refine ⟨fun i => if i = n then t else Ts i, by simp, ?_, fun i oi h1 h2 hi => ?_⟩
   · have e1 : n + (o :: l).length = n + 1 + l.length := by simp; omega
     rw [e1]
     simp only [show ¬ n + 1 + l.length = n by omega, if_false]
     exact b2
   · by_cases hin : i = n
     · subst hin
       rw [hn] at hi
       cases hi
       simp only [if_true, show ¬ i + 1 = i by omega, if_false, b1]
       exact ⟨stepOf hn k1, stepOf hn k2⟩
     · simp only [hin, if_false, show ¬ i + 1 = n by omega]
       exact b3 i oi (by omega) (by simp at h2; omega) hi
theorem dw_core (hm : P.follows .mixedOrders = true) {nt : Nat} {ops : Array Oper} (hd : drawsOk ops.toList = true) {t t1 t2 t3 t4 t5 : F} {h h2 h3 : H} {pre mid rest : List CO} {A : CO} {g : G} {d : D} {r : CR}
   (el : compOpsWith (barAt P ops.toList (befs ops.toList [])) P nt ops.toList (compOp P) 0 ops.toList = pre ++ A :: (mid ++ .mk g d true r :: rest))
   (p1 : Ops2 P pre t h h2 t1) (p2 : OpRel P A t1 h t2 h2) (p3 : Ops2 P mid t2 h h2 t3) (p4 : OpRel P (.mk g d true r) t3 h2 t4 h3) (p5 : Ops2 P rest t4 h3 h3 t5) : KeepF h h3 ∧ B.val h.next ≤ B.val h3.next ∧ ∀ ρ a w w0 (id : Nat) (Q : Exit → Act → World → Prop), ARel ρ nt t a → HRel ρ h w w0 → (∀ ρ' a' w', Ext h.floor ρ ρ' → ARel ρ' nt t5 a' → HRel ρ' h3 w' w0 → Q .normal a' w') → (Code.region id ops true).wp P Q a w := by
 obtain ⟨lp, l1, q1, q2, q3⟩ := cow_app el
 obtain ⟨oa, l2, rfl, q4, q5⟩ := cow_cons q3
 obtain ⟨lm, l3, rfl, q6, q7⟩ := cow_app q5
 obtain ⟨ob, lr, rfl, q8, q9⟩ := cow_cons q7
 rw [Nat.zero_add] at q4 q6 q8 q9
 have hop : ∀ (i : Nat) o, ops.toList[i]? = some o → ops[i]? = some o := fun i o e => by simpa using e
 generalize hb0 : lp.length + 1 + lm.length = b at *
 have hn : ops.size = b + 1 + lr.length := by have := congrArg List.length q1; simp at this; omega
 have ha : ops[lp.length]? = some oa := hop _ _ (by rw [q1]; simp)
 have hb : ops[b]? = some ob := hop _ _ (by rw [q1, ← hb0, List.getElem?_append_right (by omega), show lp.length + 1 + lm.length - lp.length = lm.length + 1 by omega, List.getElem?_cons_succ]; simp)
 obtain ⟨T0, b1, b2, b3⟩ := ops2_trace (P := P) (nt := nt) (ops := ops) (h := h) (h2 := h2) _ lp 0 _ (by rw [List.drop_zero]; exact q1) t t1 (by rw [q2]; exact p1)
 rw [Nat.zero_add] at b2 b3
 obtain ⟨T1, c1, c2, c3⟩ := ops2_trace (P := P) (nt := nt) (ops := ops) (h := h) (h2 := h2) _ lm (lp.length + 1) _ (by rw [q1, ← List.drop_drop, List.drop_left]; rfl) t2 t3 (by rw [q6]; exact p3)
 obtain ⟨T2, d1, d2, d3⟩ := ops2_trace (P := P) (nt := nt) (ops := ops) (h := h3) (h2 := h3) _ lr (b + 1) [] (by rw [q1, ← hb0, List.append_nil, show lp.length + 1 + lm.length + 1 = lp.length + (1 + (lm.length + 1)) by omega, ← List.drop_drop, List.drop_left, ← List.drop_drop, List.drop_one, List.tail_cons, ← List.drop_drop, List.drop_left]; rfl) t4 t5 (by rw [q9]; exact p5)
 rw [hb0] at c2 c3
 have hbar : barAt P ops.toList (befs ops.toList []) b = true := by
   injection q8 with _ _ e _
   exact e.symm
 have SA := stepOf ha (by rw [q4] at p2; exact p2)
 have SB := stepOf hb (by have e := q8; rw [hbar] at e; rw [e] at p4; exact p4)
 let Ts : Nat → F := fun i => if i ≤ lp.length then T0 i else if i ≤ b then T1 i else T2 i
 have U0 : ∀ i, i ≤ lp.length → Ts i = T0 i := fun i hi => if_pos hi
 have U1 : ∀ i, lp.length < i → i ≤ b → Ts i = T1 i := fun i hi hj => by
   show (if _ then _ else _) = _
   rw [if_neg (by omega), if_pos hj]
 have U2 : ∀ i, b < i → Ts i = T2 i := fun i hi => by
   show (if _ then _ else _) = _
   rw [if_neg (by omega), if_neg (by omega)]
 have hA : ∀ o, ops[lp.length]? = some o → StepOk P nt ops lp.length o true (Ts lp.length) (Ts (lp.length + 1)) h h2 := fun o ho => by
   rw [ha] at ho; cases ho
   rw [U0 _ (Nat.le_refl _), U1 _ (by omega) (by omega), b2, c1]; exact SA
 have hB : ∀ o, ops[b]? = some o → StepOk P nt ops b o true (Ts b) (Ts (b + 1)) h2 h3 := fun o ho => by
   rw [hb] at ho; cases ho
   rw [U1 _ (by omega) (Nat.le_refl _), U2 _ (by omega), c2, d1]; exact SB
 obtain ⟨f1, f2, f3⟩ := dual_ok (nt := nt) (ops := ops) (Ts := Ts) (n := lp.length) (p := b) (h := h) (h2 := h2) (h3 := h3) hm hd (by omega) (by omega) hbar
   (fun i o hi hne ho => by
     by_cases e : i < lp.length
     · rw [U0 i (by omega), U0 (i + 1) (by omega)]
       exact b3 i o (Nat.zero_le _) e ho
     · rw [U1 i (by omega) (by omega), U1 (i + 1) (by omega) (by omega)]
       exact c3 i o (by omega) hi ho)
   (fun i o hi ho => by
     have : i < ops.size := (Array.getElem?_eq_some_iff.1 ho).1
     rw [U2 i hi, U2 (i + 1) (by omega)]
     exact (d3 i o (by omega) (by omega) ho).1) hA hB
 exact ⟨f1, f2, fun ρ a w w0 id Q A R hQ => f3 ρ a w w0 id Q (by rw [U0 0 (Nat.zero_le _), b1]; exact A) R (by rw [hn, U2 _ (by omega), d2]; exact hQ)⟩
theorem Ok.dw1 (hm : P.follows .mixedOrders = true) {nt : Nat} {t t1 t2 t3 t4 t5 : F} {h h2 h3 : H} {K : X → F → H → Prop} {pre mid rest : List CO} {A : CO} {g : G} {d : D} {r : CR} {ch : Option (List Nat × List (Nat × List Nat))} 
   (p1 : Ops2 P pre t h h2 t1) (p2 : OpRel P A t1 h t2 h2) (p3 : Ops2 P mid t2 h h2 t3) (p4 : OpRel P (.mk g d true r) t3 h2 t4 h3) (p5 : Ops2 P rest t4 h3 h3 t5) (k : K .normal t5 h3) : Ok P nt (.draws (pre ++ A :: (mid ++ .mk g d true r :: rest)) ch) t h K := by
 refine ⟨.normal, t5, h3, by_scopes _ fun c e' hs => ?_, k⟩
 cases c with
 | region id ops draw =>
   have e1 : compRegion P nt ops.toList draw = .draws (pre ++ A :: (mid ++ .mk g d true r :: rest)) ch := e'
   unfold compRegion at e1
   split at e1
   · cases e1
   · split at e1
     · rename_i hd
       obtain ⟨f1, f2, f3⟩ := dw_core hm hd (CC.draws.inj e1).1 p1 p2 p3 p4 p5
       exact ⟨f1, f2, fun ρ a w w0 Q A R hQ => f3 ρ a w w0 id Q A R hQ⟩
     · cases e1
 | scope d => exact absurd rfl (hs d)
 | _ => cases e'
def DW (P : Program) (nt : Nat) (l : List CO) (t : F) (h : H) (K : X → F → H → Prop) : Prop := ∀ ch, Ok P nt (.draws l ch) t h K
theorem dwStop {nt : Nat} {l : List CO} {ch : Option (List Nat × List (Nat × List Nat))} {t : F} {h : H} {K : X → F → H → Prop} (a : DW P nt l t h K) : Ok P nt (.draws l ch) t h K := a ch
theorem DW.gen (hm : P.follows .mixedOrders = true) {nt : Nat} {t t1 t2 t3 t4 t5 : F} {h h2 h3 : H} {K : X → F → H → Prop} {l pre mid rest : List CO} {A : CO} {g : G} {d : D} {r : CR} (hl : l = pre ++ A :: (mid ++ .mk g d true r :: rest))
   (p1 : Ops2 P pre t h h2 t1) (p2 : OpRel P A t1 h t2 h2) (p3 : Ops2 P mid t2 h h2 t3) (p4 : OpRel P (.mk g d true r) t3 h2 t4 h3) (p5 : Ops2 P rest t4 h3 h3 t5) (k : K .normal t5 h3) : DW P nt l t h K := by
 intro ch
 rw [hl]
 exact Ok.dw1 hm p1 p2 p3 p4 p5 k
section
variable {r : Run} {t t' : F} {h h1 h2 : H} {v : V} {n : Nat} {b : Bool} {l : List CO}
theorem ops2_c (a : RunRel P (.mk r) t h v h) (a2 : RunRel P (.mk r) t h2 v h2) (k : Ops2 P l (put n v t) h h2 t') : Ops2 P (.mk .none (.some (slOf n)) b (.mk r) :: l) t h h2 t' :=
 ⟨_, ⟨true, fun _ => rfl, .inl ⟨rfl, v, a, fun k => putS k⟩⟩, ⟨true, fun _ => rfl, .inl ⟨rfl, v, a2, fun k => putS k⟩⟩, k⟩
theorem opRel_c (a : RunRel P (.mk r) t h v h1) : OpRel P (.mk .none (.some (slOf n)) b (.mk r)) t h (put n v t) h1 := ⟨true, fun _ => rfl, .inl ⟨rfl, v, a, fun k => putS k⟩⟩
theorem opRel_0 (a : RunRel P (.mk r) t h v h1) : OpRel P (.mk .none .none b (.mk r)) t h t h1 := ⟨true, fun _ => rfl, .inl ⟨rfl, v, a, fun k => rfl⟩⟩
theorem ops2_u (n : Nat) (r : Run) (v : V) (a : RunRel P (.mk r) t h v h) (a2 : RunRel P (.mk r) t h2 v h2) (k : Ops2 P l (put n v t) h h2 t') : Ops2 P (uB n r :: l) t h h2 t' := ops2_c a a2 k
theorem ops2_n : Ops2 P [] t h h2 t := rfl
theorem opRel_u (n : Nat) (r : Run) (a : RunRel P (.mk r) t h v h1) : OpRel P (uB n r) t h (put n v t) h1 := opRel_c a
theorem dw_gen {nt : Nat} {K : X → F → H → Prop} (a : ∀ T, T = t → DW P nt l T h K) : DW P nt l t h K := a t rfl
theorem or_run {K : F → H → Prop} (a : OR P r t h (.w0 [] t K)) : ∃ v h', RunRel P (.mk r) t h v h' ∧ K t h' := by
 obtain ⟨v, h', rr, k⟩ := a
 rw [go_w0, wo_nil] at k
 exact ⟨v, h', rr, k⟩
theorem rv_of (a : OR P r t h (.w 0 [] F.zero fun t' h' => get 0 t' = v ∧ h' = h)) : RunRel P (.mk r) t h v h := by
 obtain ⟨v', h', rr, k⟩ := a
 rw [go_w, wo_nil, get_put', if_pos rfl] at k
 obtain ⟨rfl, rfl⟩ := k
 exact rr
end
end
end Go.Ev

set_option linter.all false
namespace Go.Ev
open Go
section
variable {P : Program}
theorem opRel_quiet {nt : Nat} {ops : List Oper} {o : Oper} {b : Bool} {t t1 : F} {h h1 : H} (hq : quiet P o.op = true) (a : OpRel P ⟨compG nt ops o.guard, dOf nt o.dst, b, compOp P o.op⟩ t h t1 h1) : h1 = h := by
 obtain ⟨c, _, a⟩ := a
 rcases a with ⟨_, v, ⟨cf, hcf, e⟩, _⟩ | ⟨_, e, _⟩
 · exact quiet_ok hq hcf e
 · exact e
theorem quiet_ops {nt : Nat} {ops : Array Oper} (bars : Nat → Bool) {h : H} : ∀ (l : List Oper) (n : Nat) (rest : List Oper), ops.toList.drop n = l ++ rest → (∀ o ∈ l, quiet P o.op = true) → ∀ (t t' : F) (h' : H),
   OpsRel P (compOpsWith bars P nt ops.toList (compOp P) n l) t h t' h' →
   h' = h ∧ ∃ Ts : Nat → F, Ts n = t ∧ Ts (n + l.length) = t' ∧ ∀ (i : Nat) o, n ≤ i → i < n + l.length → ops[i]? = some o → StepOk P nt ops i o true (Ts i) (Ts (i + 1)) h h := by
 intro l
 induction l with
 | nil =>
   intro n rest hl _ t t' h' hk
   obtain ⟨rfl, rfl⟩ := hk
   exact ⟨rfl, fun _ => t', rfl, rfl, fun i o h1 h2 => by simp at h2; omega⟩
 | cons o l ih =>
   intro n rest hl hq t t' h' hk
   have hn : ops[n]? = some o := by
     have : ops.toList[n]? = some o := by
       have := congrArg (fun l => l[0]?) hl
       simpa using this
     simpa using this
   obtain ⟨t1, h1, k1, k2⟩ := hk
   obtain rfl := opRel_quiet (hq o (by simp)) k1
   have hl' : ops.toList.drop (n + 1) = l ++ rest := by rw [← List.drop_drop, hl]; rfl
   obtain ⟨e, Ts, b1, b2, b3⟩ := ih (n + 1) rest hl' (fun x hx => hq x (List.mem_cons_of_mem _ hx)) _ _ _ k2
   refine ⟨e, fun i => if i = n then t else Ts i, by simp, ?_, fun i oi h1 h2 hi => ?_⟩
   · have e1 : n + (o :: l).length = n + 1 + l.length := by simp; omega
     rw [e1]
     simp only [show ¬ n + 1 + l.length = n by omega, if_false]
     exact b2
   · by_cases hin : i = n
     · subst hin
       rw [hn] at hi
       cases hi
       simp only [if_true, show ¬ i + 1 = i by omega, if_false, b1]
       exact stepOf hn k1
     · simp only [hin, if_false, show ¬ i + 1 = n by omega]
       exact b3 i oi (by omega) (by simp at h2; omega) hi
theorem Ok.float (hm : P.follows .mixedOrders = true) {nt : Nat} {t : F} {h : H} {K : X → F → H → Prop} {l L1 L2 L3 : List CO} {o A B : CO} {ld : List Nat} {cs : List (Nat × List Nat)} {n p : Nat} (hl : l = L1 ++ o :: (L2 ++ A :: (L3 ++ [B])))
   (hn : n = L1.length + 1 + L2.length) (hp : p = n + 1 + L3.length) (hlo : ld = [n, p])
   (hcs : cs.all (fun q => (decide (q.1 = L1.length) && q.2.all fun j => decide (j ≤ p)) || ((decide (q.1 ≠ L1.length ∧ q.1 < n) && q.2.all fun j => decide (j ≤ n)) || (decide (n < q.1 ∧ q.1 < p) && q.2.all fun j => decide (n < j ∧ j ≤ p)))) = true)
   (k : WO P L1 t h fun t1 _ => ∃ t2, OpRel P o t1 h t2 h ∧ WO P L2 t2 h fun t3 _ => ∃ t4 h2, OpRel P A t3 h t4 h2 ∧ OpRel P o t1 h2 t2 h2 ∧ WO P L3 t4 h2 fun t5 _ => ∃ t6 h3, OpRel P B t5 h2 t6 h3 ∧ K .normal t6 h3) : Ok P nt (.draws l (some (ld, cs))) t h K := by
 obtain ⟨t1, g1, k1, t2, k2, t3, g3, k3, t4, h2, k4, k5, t5, g5, k6, t6, h3, k7, kk⟩ := k
 refine ⟨.normal, t6, h3, by_scopes _ fun c e' hs => ?_, kk⟩
 cases c with
 | region id ops draw =>
   have e1 : compRegion P nt ops.toList draw = .draws l (some (ld, cs)) := e'
   unfold compRegion at e1
   split at e1
   · cases e1
   · split at e1
     · rename_i hd
       obtain ⟨e2, ec⟩ := CC.draws.inj e1
       rw [hl] at e2
       obtain ⟨l1, r1, q1, q2, q3⟩ := cow_app e2
       obtain ⟨oo, r2, rfl, q4, q5⟩ := cow_cons q3
       obtain ⟨l2, r3, rfl, q6, q7⟩ := cow_app q5
       obtain ⟨oa, r4, rfl, q8, q9⟩ := cow_cons q7
       obtain ⟨l3, r5, rfl, q10, q11⟩ := cow_app q9
       obtain ⟨ob, r6, rfl, q12, q13⟩ := cow_cons q11
       have cl : ∀ (bars : Nat → Bool) (l : List Oper) (n : Nat), (compOpsWith bars P nt ops.toList (compOp P) n l).length = l.length := by
         intro bars l
         induction l with
         | nil => intro n; rfl
         | cons o l ih => intro n; show (compOpsWith bars P nt ops.toList (compOp P) (n + 1) l).length + 1 = _; rw [ih]; rfl
       have c1 : L1.length = l1.length := by rw [← q2, cl]
       have c2 : L2.length = l2.length := by rw [← q6, cl]
       have c3 : L3.length = l3.length := by rw [← q10, cl]
       obtain rfl : r6 = [] := by
         cases r6 with
         | nil => rfl
         | cons x r => have := congrArg List.length q13; rw [cl] at this; simp at this
       rw [c1] at hcs
       rw [Nat.zero_add] at q4 q6 q8 q10 q12
       obtain rfl : n = l1.length + 1 + l2.length := by omega
       obtain rfl : p = l1.length + 1 + l2.length + 1 + l3.length := by omega
       have hsz : ops.size = l1.length + 1 + l2.length + 1 + l3.length + 1 := by have := congrArg List.length q1; simp at this; omega
       have hop : ∀ (i : Nat) o, ops.toList[i]? = some o → ops[i]? = some o := fun i o e => by simpa using e
       have gl : ∀ i : Nat, ops.toList[i]? = (l1 ++ oo :: (l2 ++ oa :: (l3 ++ [ob])))[i]? := fun i => by rw [q1]
       have ho : ops[l1.length]? = some oo := hop _ _ (by rw [gl]; simp)
       have ha : ops[l1.length + 1 + l2.length]? = some oa := hop _ _ (by rw [gl, List.getElem?_append_right (by omega), show l1.length + 1 + l2.length - l1.length = l2.length + 1 by omega, List.getElem?_cons_succ]; simp)
       have hb : ops[l1.length + 1 + l2.length + 1 + l3.length]? = some ob := hop _ _ (by rw [gl, List.getElem?_append_right (by omega), show l1.length + 1 + l2.length + 1 + l3.length - l1.length = (l2.length + 1 + l3.length) + 1 by omega, List.getElem?_cons_succ, List.getElem?_append_right (by omega), show l2.length + 1 + l3.length - l2.length = l3.length + 1 by omega, List.getElem?_cons_succ]; simp)
       have hld : ld = loudsOf P 0 ops.toList := by
         unfold chainOf at ec
         split at ec
         · cases ec; rfl
         · cases ec
       rw [hlo] at hld
       have hqt : ∀ (i : Nat) x, ops[i]? = some x → i ≠ l1.length + 1 + l2.length → i ≠ l1.length + 1 + l2.length + 1 + l3.length → quiet P x.op = true := fun i x hx n1 n2 => by
         cases hq : quiet P x.op with
         | true => rfl
         | false =>
           have : i ∈ loudsOf P 0 ops.toList := louds_mem.2 ⟨i, x, by omega, (Array.getElem?_toList (xs := ops) (i := i)).trans hx, hq⟩
           rw [← hld] at this
           simp only [List.mem_cons, List.not_mem_nil, or_false] at this
           omega
       have hlq : ∀ (i : Nat) x, ops[i]? = some x → quiet P x.op = true → i ≠ l1.length + 1 + l2.length ∧ i ≠ l1.length + 1 + l2.length + 1 + l3.length := fun i x hx hq => by
         have no : i ∉ loudsOf P 0 ops.toList := fun hi => by
           obtain ⟨j, y, e1, e2, e3⟩ := louds_mem.1 hi
           have e4 : ops[j]? = some y := hop _ _ e2
           rw [show j = i by omega, hx] at e4
           cases e4; rw [hq] at e3; cases e3
         rw [← hld] at no
         simp only [List.mem_cons, List.not_mem_nil, or_false, not_or] at no
         exact no
       have Q1 : ∀ x ∈ l1, quiet P x.op = true := fun x hx => by
         obtain ⟨i, hi, e⟩ := List.mem_iff_getElem.1 hx
         exact hqt i x (hop _ _ (by rw [gl, List.getElem?_append_left hi, List.getElem?_eq_getElem hi, e])) (by omega) (by omega)
       have Q2 : ∀ x ∈ l2, quiet P x.op = true := fun x hx => by
         obtain ⟨i, hi, e⟩ := List.mem_iff_getElem.1 hx
         exact hqt (l1.length + 1 + i) x (hop _ _ (by rw [gl, List.getElem?_append_right (by omega), show l1.length + 1 + i - l1.length = i + 1 by omega, List.getElem?_cons_succ, List.getElem?_append_left hi, List.getElem?_eq_getElem hi, e])) (by omega) (by omega)
       have Q3 : ∀ x ∈ l3, quiet P x.op = true := fun x hx => by
         obtain ⟨i, hi, e⟩ := List.mem_iff_getElem.1 hx
         exact hqt (l1.length + 1 + l2.length + 1 + i) x (hop _ _ (by rw [gl, List.getElem?_append_right (by omega), show l1.length + 1 + l2.length + 1 + i - l1.length = (l2.length + 1 + i) + 1 by omega, List.getElem?_cons_succ, List.getElem?_append_right (by omega), show l2.length + 1 + i - l2.length = i + 1 by omega, List.getElem?_cons_succ, List.getElem?_append_left hi, List.getElem?_eq_getElem hi, e])) (by omega) (by omega)
       have d1 : ops.toList.drop (l1.length + 1) = l2 ++ (oa :: (l3 ++ [ob])) := by rw [q1, ← List.drop_drop, List.drop_left]; rfl
       have d2 : ops.toList.drop (l1.length + 1 + l2.length + 1) = l3 ++ [ob] := by rw [← List.drop_drop, ← List.drop_drop, d1, List.drop_left]; rfl
       obtain ⟨z1, T1, a1, a2, a3⟩ := quiet_ops (P := P) (nt := nt) (ops := ops) (h := h) _ l1 0 _ (by rw [List.drop_zero]; exact q1) Q1 t t1 g1 (by rw [q2]; exact k1)
       rw [Nat.zero_add] at a2 a3
       obtain ⟨z2, T2, b1, b2, b3⟩ := quiet_ops (P := P) (nt := nt) (ops := ops) (h := h) _ l2 (l1.length + 1) _ d1 Q2 t2 t3 g3 (by rw [q6]; exact k3)
       obtain ⟨z3, T3, c4, c5, c6⟩ := quiet_ops (P := P) (nt := nt) (ops := ops) (h := h2) _ l3 (l1.length + 1 + l2.length + 1) _ d2 Q3 t4 t5 g5 (by rw [q10]; exact k6)
       rw [q4] at k2 k5
       rw [q8] at k4
       rw [q12] at k7
       let Ts : Nat → F := fun i => if i ≤ l1.length then T1 i else if i ≤ l1.length + 1 + l2.length then T2 i else if i ≤ l1.length + 1 + l2.length + 1 + l3.length then T3 i else t6
       let Hs : Nat → H := fun i => if i ≤ l1.length + 1 + l2.length then h else if i ≤ l1.length + 1 + l2.length + 1 + l3.length then h2 else h3
       have U1 : ∀ i, i ≤ l1.length → Ts i = T1 i := fun i hi => if_pos hi
       have U2 : ∀ i, l1.length < i → i ≤ l1.length + 1 + l2.length → Ts i = T2 i := fun i hi hj => by
         show (if _ then _ else _) = _
         rw [if_neg (by omega), if_pos hj]
       have U3 : ∀ i, l1.length + 1 + l2.length < i → i ≤ l1.length + 1 + l2.length + 1 + l3.length → Ts i = T3 i := fun i hi hj => by
         show (if _ then _ else _) = _
         rw [if_neg (by omega), if_neg (by omega), if_pos hj]
       have U4 : ∀ i, l1.length + 1 + l2.length + 1 + l3.length < i → Ts i = t6 := fun i hi => by
         show (if _ then _ else _) = _
         rw [if_neg (by omega), if_neg (by omega), if_neg (by omega)]
       have V1 : ∀ i, i ≤ l1.length + 1 + l2.length → Hs i = h := fun i hi => if_pos hi
       have V2 : ∀ i, l1.length + 1 + l2.length < i → i ≤ l1.length + 1 + l2.length + 1 + l3.length → Hs i = h2 := fun i hi hj => by
         show (if _ then _ else _) = _
         rw [if_neg (by omega), if_pos hj]
       have V3 : ∀ i, l1.length + 1 + l2.length + 1 + l3.length < i → Hs i = h3 := fun i hi => by
         show (if _ then _ else _) = _
         rw [if_neg (by omega), if_neg (by omega)]
       have So : StepOk P nt ops l1.length oo true (Ts l1.length) (Ts (l1.length + 1)) h h ∧ StepOk P nt ops l1.length oo true (Ts l1.length) (Ts (l1.length + 1)) h2 h2 := by
         rw [U1 _ (Nat.le_refl _), U2 _ (by omega) (by omega), a2, b1]
         exact ⟨stepOf ho k2, stepOf ho k5⟩
       have Sq : ∀ (i : Nat) x, ops[i]? = some x → i ≠ l1.length + 1 + l2.length → i ≠ l1.length + 1 + l2.length + 1 + l3.length → StepOk P nt ops i x true (Ts i) (Ts (i + 1)) (Hs i) (Hs i) := fun i x hx n1 n2 => by
         have hi : i < ops.size := (Array.getElem?_eq_some_iff.1 hx).1
         by_cases e1 : i < l1.length
         · rw [U1 _ (by omega), U1 _ (by omega), V1 _ (by omega)]; exact a3 i x (Nat.zero_le _) e1 hx
         · by_cases e2 : i = l1.length
           · subst e2
             rw [ho] at hx; cases hx
             rw [V1 _ (by omega)]; exact So.1
           · by_cases e3 : i < l1.length + 1 + l2.length
             · rw [U2 _ (by omega) (by omega), U2 _ (by omega) (by omega), V1 _ (by omega)]; exact b3 i x (by omega) e3 hx
             · rw [U3 _ (by omega) (by omega), U3 _ (by omega) (by omega), V2 _ (by omega) (by omega)]; exact c6 i x (by omega) (by omega) hx
       obtain ⟨f1, f2, f3⟩ := chain_of (nt := nt) (ops := ops) (Ts := Ts) (Hs := Hs) hm hd ec
         (fun i x hx => by
           by_cases n1 : i = l1.length + 1 + l2.length
           · subst n1
             rw [ha] at hx; cases hx
             refine ⟨?_, fun hq => absurd rfl (hlq _ _ ha hq).1⟩
             rw [U2 _ (by omega) (Nat.le_refl _), U3 _ (by omega) (by omega), V1 _ (Nat.le_refl _), V2 _ (by omega) (by omega), b2, c4]
             exact stepOf ha k4
           · by_cases n2 : i = l1.length + 1 + l2.length + 1 + l3.length
             · subst n2
               rw [hb] at hx; cases hx
               refine ⟨?_, fun hq => absurd rfl (hlq _ _ hb hq).2⟩
               rw [U3 _ (by omega) (Nat.le_refl _), U4 _ (by omega), V2 _ (by omega) (Nat.le_refl _), V3 _ (by omega), c5]
               exact stepOf hb k7
             · have same : Hs (i + 1) = Hs i := by
                 have hi : i < ops.size := (Array.getElem?_eq_some_iff.1 hx).1
                 by_cases e : i < l1.length + 1 + l2.length
                 · rw [V1 _ (by omega), V1 _ (by omega)]
                 · rw [V2 _ (by omega) (by omega), V2 _ (by omega) (by omega)]
               exact ⟨by rw [same]; exact Sq i x hx n1 n2, fun _ => same⟩)
         (fun q hq x hx j hj => by
           have := List.all_eq_true.1 hcs q hq
           simp only [Bool.or_eq_true, Bool.and_eq_true, decide_eq_true_eq, List.all_eq_true] at this
           rcases this with ⟨e1, e2⟩ | ⟨⟨e1, e3⟩, e2⟩ | ⟨⟨e1, e3⟩, e2⟩
           · rw [e1] at hx ⊢
             rw [ho] at hx; cases hx
             have := e2 j hj
             by_cases e : j ≤ l1.length + 1 + l2.length
             · rw [V1 _ e]; exact So.1
             · rw [V2 _ (by omega) this]; exact So.2
           · have := Sq q.1 x hx (by omega) (by omega)
             rw [V1 _ (by omega)] at this
             rw [V1 _ (e2 j hj)]; exact this
           · have := Sq q.1 x hx (by omega) (by omega)
             rw [V2 _ e1 (by omega)] at this
             have h9 := e2 j hj
             rw [V2 _ h9.1 h9.2]; exact this)
       rw [V1 0 (Nat.zero_le _), V3 ops.size (by omega)] at f1 f2 f3
       exact ⟨f1, f2, fun ρ a w w0 Q A R hQ => f3 ρ a w w0 id Q (by rw [U1 0 (Nat.zero_le _), a1]; exact A) R (by rw [U4 ops.size (by omega)]; exact hQ)⟩
     · cases e1
 | scope d => exact absurd rfl (hs d)
 | _ => cases e'
theorem run_call' {f : FuncId} {vs : List V} {t : F} {h : H} {Q : V → H → Prop} {args : List O} (a : FnOk P f vs h Q) (e : args.map (fun o => oV o t) = vs) : ∃ v h', RunRel P (.mk (doCall f args)) t h v h' ∧ Q v h' := by
 have : OR P (doCall f args) t h (.w 0 [] F.zero fun t' h' => Q (get 0 t') h') := by
   rw [or_call, e]
   exact ⟨Q, a, fun v h' q => by rw [go_w, wo_nil, get_put', if_pos rfl]; exact q⟩
 obtain ⟨v, h', rr, k⟩ := this
 rw [go_w, wo_nil, get_put', if_pos rfl] at k
 exact ⟨v, h', rr, k⟩
end
end Go.Ev

set_option maxRecDepth 100000
set_option maxHeartbeats 8000000
set_option linter.all false
namespace Go.Ev
open Go
theorem Ok.float2 {P : Program} (hm : P.follows .mixedOrders = true) {nt n : Nat} {t : F} {h : H} {K : X → F → H → Prop} {l L1 L2 L3 : List CO} {rl rA rB : Run} {bA bB : Bool} {ld : List Nat} {cs : List (Nat × List Nat)} {i j : Nat} (hl : l = L1 ++ .mk .none (.some (slOf n)) .false (.mk rl) :: (L2 ++ .mk .none .none bA (.mk rA) :: (L3 ++ [.mk .none .none bB (.mk rB)])))
   (hn : i = L1.length + 1 + L2.length) (hp : j = i + 1 + L3.length) (hlo : ld = [i, j])
   (hcs : cs.all (fun q => (decide (q.1 = L1.length) && q.2.all fun k => decide (k ≤ j)) || ((decide (q.1 ≠ L1.length ∧ q.1 < i) && q.2.all fun k => decide (k ≤ i)) || (decide (i < q.1 ∧ q.1 < j) && q.2.all fun k => decide (i < k ∧ k ≤ j)))) = true)
   (k : WO P L1 t h fun t1 _ => ∃ x, OR P rl t1 h (.w 0 [] F.zero fun t' h' => get 0 t' = x ∧ h' = h) ∧ WO P L2 (put n x t1) h fun t3 _ => OR P rA t3 h (.w0 [] t3 fun _ h2 => OR P rl t1 h2 (.w 0 [] F.zero fun t' h' => get 0 t' = x ∧ h' = h2) ∧ WO P L3 t3 h2 fun t5 _ => OR P rB t5 h2 (.w0 [] t5 fun _ h3 => K .normal t5 h3))) : Ok P nt (.draws l (some (ld, cs))) t h K := by
 obtain ⟨t1, g1, k1, x, k2, t3, g3, k3, k4⟩ := k
 obtain ⟨v, h2, rr, k5, t5, g5, k6, k7⟩ := or_run k4
 obtain ⟨v', h3, rr', k8⟩ := or_run k7
 exact Ok.float hm hl hn hp hlo hcs ⟨t1, g1, k1, _, opRel_c (rv_of k2), t3, g3, k3, _, h2, opRel_0 rr, opRel_c (rv_of k5), t5, g5, k6, _, h3, opRel_0 rr', k8⟩
def FLo (P : Program) (nt : Nat) (l : List CO) (ld : List Nat) (cs : List (Nat × List Nat)) (t : F) (h : H) (K : X → F → H → Prop) : Prop := Ok P nt (.draws l (some (ld, cs))) t h K
theorem flStop {P : Program} {nt : Nat} {l : List CO} {ld : List Nat} {cs : List (Nat × List Nat)} {t : F} {h : H} {K : X → F → H → Prop} (a : FLo P nt l ld cs t h K) : Ok P nt (.draws l (some (ld, cs))) t h K := a
theorem gr_cells {α : Type} {n el : Nat} {c : α → List V} {h : H} {v : V} {L : List α} (a : Gr el n c h v L) : cells v = [v] ∧ oneV v = true := by
 rcases a with ⟨rfl, rfl⟩ | ⟨id, g, off, fin, rfl, _⟩ | ⟨id, g, cap, blk, rfl, _⟩ <;> exact ⟨rfl, rfl⟩
end Go.Ev
namespace Go.Proofs.Ytclpemggclmgeaa
open Go Go.Ev
theorem do_ok {h : H} {b : B} {v g c : V} {S : Sht} {e : Edt} (a : ShP h b v S) (wf : Wf S) (m : EdM h g c e) (hgl : e.gone.length ≤ 100) (hcl : e.come.length ≤ 100) (hsz : ∀ t ∈ e.come, t.fst.length ≤ 1000000 ∧ t.lst.length ≤ 1000000) (hf : B.val h.floor ≤ B.val h.next) (hcb : ∀ q, isOf c q → q ≠ b) :
   FnOk Try.prog 13 [.p b 0 0 4, .a [g, c, .i .i64 e.log, .i .i64 e.seq]] h fun y h' => y = .i .i64 (doS S e).1 ∧ ∃ v', ShP h' b v' (doS S e).2 ∧ (∀ q, isOf v' q → isOf v q ∨ B.val h.next ≤ B.val q) ∧ Stay (fun q => q = b) h h' := by
 have hl := wf.len
 refine fn_go c13 (by intro hb; cases hb) (by simp) (by simp) fun Q hQ => ?_
 simp only [slotsF, Nat.reduceAdd]
 repeat' (first
   | refine St.h ?_
   | simp (disch := first | omega | (simp only [lnv]; omega)) only [wlk, ↓get_put', ↓reduceIte, seval]
   | (with_reducible (first | apply cd_split | apply gd_split)) <;> (intro hc; (try simp only [hcn] at hc); (try simp only [hc]); (try simp only [hcl] at hc); try omega))
 refine AL.own (by simp) hf fun h1 s1 n1 o1 => ?_
 have hf1 := s1.fl hf
 have r1 := o1.row
 repeat' (first
   | refine St.h ?_
   | simp (disch := first | omega | (simp only [lnv]; omega)) only [wlk, ↓get_put', ↓reduceIte, seval, r1.ln]
   | (with_reducible (first | apply cd_split | apply gd_split)) <;> (intro hc; (try simp only [hcn] at hc); (try simp only [hc]); (try simp only [hcl] at hc); try omega))
 refine CL.stay (edit_ok (m.grow s1) (by omega) (by omega) hf1) fun h2 s2 => ?_
 have s12 := s1.trans s2
 have hf2 := s12.fl hf
 have up : ∀ {h'}, Stay nowhere h h' → Stay (fun q => q = b) h h' := fun s => s.mono fun _ _ e => e.elim
 cases he : isEd e with
 | false =>
   have ed : doS S e = (10, S) := by unfold doS; rw [if_pos he]
   repeat' (first
     | refine St.h ?_
     | simp (disch := first | omega | (simp only [lnv]; omega)) only [wlk, ↓get_put', ↓reduceIte, seval]
     | (with_reducible (first | apply cd_split | apply gd_split)) <;> (intro hc; (try simp only [hcn] at hc); (try simp only [hc]); (try simp only [hcl] at hc); try omega))
   subst hQ
   rw [ed]
   exact ⟨rfl, v, a.grow s12, fun q hq => .inl hq, up s12⟩
 | true =>
 have IE := isEd_iff.1 he
 have r2 := (o1.stay s2 fun e => e).row
 repeat' (first
   | refine St.h ?_
   | simp (disch := first | omega | (simp only [lnv]; omega)) only [wlk, ↓get_put', ↓reduceIte, seval, r2.l1]
   | (with_reducible (first | apply cd_split | apply gd_split)) <;> (intro hc; (try simp only [hcn] at hc); (try simp only [hc]); (try simp only [hcl] at hc); try omega))
 refine CL.stay (hasall_ok (a.grow s12) (m.grow s12).1 (by omega) (by omega) hf2) fun h3 s3 => ?_
 have s13 := s12.trans s3
 have hf3 := s13.fl hf
 cases hh : hasT S.L e.gone with
 | false =>
   have ed : doS S e = (18, S) := by unfold doS; rw [if_neg (by rw [he]; simp), if_pos hh]
   repeat' (first
     | refine St.h ?_
     | simp (disch := first | omega | (simp only [lnv]; omega)) only [wlk, ↓get_put', ↓reduceIte, seval]
     | (with_reducible (first | apply cd_split | apply gd_split)) <;> (intro hc; (try simp only [hcn] at hc); (try simp only [hc]); (try simp only [hcl] at hc); try omega))
   subst hQ
   rw [ed]
   exact ⟨rfl, v, a.grow s13, fun q hq => .inl hq, up s13⟩
 | true =>
 have r3 := (o1.stay (s2.trans s3) fun e => e).row
 repeat' (first
   | refine St.h ?_
   | simp (disch := first | omega | (simp only [lnv]; omega)) only [wlk, ↓get_put', ↓reduceIte, seval, r3.ln]
   | (with_reducible (first | apply cd_split | apply gd_split)) <;> (intro hc; (try simp only [hcn] at hc); (try simp only [hc]); (try simp only [hcl] at hc); try omega))
 refine CL.stay (past_ok (a.grow s13) (m.grow s13) hf3) fun h4 s4 => ?_
 have s14 := s13.trans s4
 have hf4 := s14.fl hf
 cases hp : pastT S e with
 | true =>
   have ed : doS S e = (16, S) := by unfold doS; rw [if_neg (by rw [he]; simp), if_neg (by rw [hh]; simp), if_pos hp]
   repeat' (first
     | refine St.h ?_
     | simp (disch := first | omega | (simp only [lnv]; omega)) only [wlk, ↓get_put', ↓reduceIte, seval]
     | (with_reducible (first | apply cd_split | apply gd_split)) <;> (intro hc; (try simp only [hcn] at hc); (try simp only [hc]); (try simp only [hcl] at hc); try omega))
   subst hQ
   rw [ed]
   exact ⟨rfl, v, a.grow s14, fun q hq => .inl hq, up s14⟩
 | false =>
 have r4 := (o1.stay ((s2.trans s3).trans s4) fun e => e).row
 repeat' (first
   | refine St.h ?_
   | simp (disch := first | omega | (simp only [lnv]; omega)) only [wlk, ↓get_put', ↓reduceIte, seval, r4.ln]
   | (with_reducible (first | apply cd_split | apply gd_split)) <;> (intro hc; (try simp only [hcn] at hc); (try simp only [hc]); (try simp only [hcl] at hc); try omega))
 refine CL.mk (behind_ok (a.grow s14) (m.grow s14) (by omega) hgl hcl hsz hf4) ?_
 rintro u h5 ⟨M, pm, so, bM, own, s5⟩
 have s15 := s14.trans s5
 have hf5 := s15.fl hf
 have hlM : M.length ≤ 200 := by rw [pm.length_eq, List.length_append]; have : (leftT S.L e.gone).length ≤ S.L.length := List.length_filter_le _ _; omega
 have e0 : doS S e = match comeT (leftT S.L e.gone) e.come with | none => (16, S) | some M => if 40 < M.length then (25, S) else (0, newS S e M) := by unfold doS; rw [if_neg (by rw [he]; simp), if_neg (by rw [hh]; simp), if_neg (by rw [hp]; simp)] <;> cases comeT (leftT S.L e.gone) e.come <;> rfl
 have dq := do_eq wf IE hp pm so
 repeat' (first
   | refine St.h ?_
   | simp (disch := first | omega | (simp only [lnv]; omega)) only [wlk, ↓get_put', ↓reduceIte, seval]
   | (with_reducible (first | apply cd_split | apply gd_split)) <;> (intro hc; (try simp only [hcn] at hc); (try simp only [hc]); (try simp only [hcl] at hc); try omega))
 refine CL.stay (meet_ok bM.tbs (by omega) hf5) fun h6 s6 => ?_
 have s16 := s15.trans s6
 have hf6 := s16.fl hf
 have b6 := bM.grow s6
 cases hm : meetsB M with
 | true =>
   have hc : comeT (leftT S.L e.gone) e.come = none := by
     rcases dq with ⟨_, h⟩ | ⟨h, _⟩
     · exact h
     · rw [hm] at h; cases h
   rw [hc] at e0
   repeat' (first
     | refine St.h ?_
     | simp (disch := first | omega | (simp only [lnv]; omega)) only [wlk, ↓get_put', ↓reduceIte, seval]
     | (with_reducible (first | apply cd_split | apply gd_split)) <;> (intro hc; (try simp only [hcn] at hc); (try simp only [hc]); (try simp only [hcl] at hc); try omega))
   subst hQ
   rw [e0]
   exact ⟨rfl, v, a.grow s16, fun q hq => .inl hq, up s16⟩
 | false =>
 have hc : comeT (leftT S.L e.gone) e.come = some M := by
   rcases dq with ⟨h, _⟩ | ⟨_, h⟩
   · rw [hm] at h; cases h
   · exact h
 rw [hc] at e0
 by_cases h40 : 40 < M.length
 · have d40 : ((40 : Int) < (M.length : Int)) = True := eq_true (by omega)
   have ed : doS S e = (25, S) := e0.trans (if_pos h40)
   repeat' (first
     | refine St.h ?_
     | simp (disch := first | omega | (simp only [lnv]; omega)) only [wlk, ↓get_put', ↓reduceIte, seval, b6.tbs.ln, d40]
     | (with_reducible (first | apply cd_split | apply gd_split)) <;> (intro hc; (try simp only [hcn] at hc); (try simp only [hc]); (try simp only [hcl] at hc); try omega))
   subst hQ
   rw [ed]
   exact ⟨rfl, v, a.grow s16, fun q hq => .inl hq, up s16⟩
 have d40 : ((40 : Int) < (M.length : Int)) = False := eq_false (by omega)
 have ed : doS S e = (0, newS S e M) := e0.trans (if_neg h40)
 have a6 := a.grow s16
 repeat' (first
   | refine St.h ?_
   | simp (disch := first | omega | (simp only [lnv]; omega)) only [wlk, ↓get_put', ↓reduceIte, seval, b6.tbs.ln, d40]
   | (with_reducible (first | apply cd_split | apply gd_split)) <;> (intro hc; (try simp only [hcn] at hc); (try simp only [hc]); (try simp only [hcl] at hc); try omega))
 refine ST.own a6.1 (gr_cells b6).1 (gr_cells b6).2 (by omega) (by omega) fun h7 o7 s7 => ?_
 have o7 : Ev.Own h7 b [u, .i .i64 S.log, .i .i64 S.seq, .i .i64 S.next] := o7
 have hne : h.next ≠ b := fun e => by have := a.lt.1; rw [← e] at this; omega
 have q7 := ((o1.stay ((((s2.trans s3).trans s4).trans s5).trans s6) fun e => e).stay s7 fun e => hne e).row
 have w7 := o7.row
 repeat' (first
   | with_reducible refine flStop ?_
   | refine St.h ?_
   | simp (disch := first | omega | (simp only [lnv]; omega)) only [wlk, ↓get_put', ↓reduceIte, seval, w7.l1, q7.l1]
   | (with_reducible (first | apply cd_split | apply gd_split)) <;> (intro hc; (try simp only [hcn] at hc); (try simp only [hc]); (try simp only [hcl] at hc); try omega))
 refine Ok.float2 hmix (L1 := [.mk .none (.some (slOf 35)) .false (.mk (doMove (tm 0))), .mk .none (.some (slOf 36)) .false (.mk (doMove (tm 0))), .mk .none (.some (slOf 37)) .false (.mk (doMove (tm 0))), .mk .none (.some (slOf 38)) .false (.mk (doNilCheck (tm 37))), .mk .none (.some (slOf 39)) .false (.mk (doFieldAddr 1 (tm 38))), .mk .none (.some (slOf 40)) .false (.mk (doLoad (tm 39))), .mk .none (.some (slOf 41)) .false (.mk (doFieldAddr 2 (tm 3))), .mk .none (.some (slOf 42)) .false (.mk (doLoad (tm 41))), .mk .none (.some (slOf 43)) .false (.mk (doMax (tm 40) (tm 42))), .mk .none (.some (slOf 44)) .false (.mk (doMove (tm 0))), .mk .none (.some (slOf 45)) .false (.mk (doNilCheck (tm 44))), .mk .none (.some (slOf 46)) .false (.mk (doFieldAddr 2 (tm 45))), .mk .none (.some (slOf 47)) .false (.mk (doLoad (tm 46))), .mk .none (.some (slOf 48)) .false (.mk (doFieldAddr 3 (tm 3)))]) (L2 := [.mk .none (.some (slOf 50)) .false (.mk (doMax (tm 47) (tm 49))), .mk .none (.some (slOf 51)) .false (.mk (doNilCheck (tm 35))), .mk .none (.some (slOf 52)) .false (.mk (doFieldAddr 1 (tm 51)))]) (L3 := [.mk .none (.some (slOf 53)) .true (.mk (doNilCheck (tm 36))), .mk .none (.some (slOf 54)) .false (.mk (doFieldAddr 2 (tm 53)))]) (n := 49) (rl := doLoad (tm 48)) (rA := doStore 1 (tm 52) (tm 43)) (rB := doStore 1 (tm 54) (tm 50)) rfl rfl rfl rfl (by decide) ?_
 repeat' (first
   | refine St.h ?_
   | simp (disch := first | omega | (simp only [lnv]; omega)) only [wlk, ↓get_put', ↓reduceIte, seval, w7.l1, q7.l1]
   | (with_reducible (first | apply cd_split | apply gd_split)) <;> (intro hc; (try simp only [hcn] at hc); (try simp only [hc]); (try simp only [hcl] at hc); try omega))
 refine ⟨.i .i64 e.seq, ?_⟩
 repeat' (first
   | refine St.h ?_
   | simp (disch := first | omega | (simp only [lnv]; omega)) only [wlk, ↓get_put', ↓reduceIte, seval, w7.l1, q7.l1]
   | (with_reducible (first | apply cd_split | apply gd_split)) <;> (intro hc; (try simp only [hcn] at hc); (try simp only [hc]); (try simp only [hcl] at hc); try omega))
 refine ⟨trivial, ?_⟩
 refine ST.own o7 rfl rfl (by omega) (by omega) fun h8 o8 s8 => ?_
 have o8 : Ev.Own h8 b [u, .i .i64 (max S.log e.log), .i .i64 S.seq, .i .i64 S.next] := o8
 have ob8 := (((o1.stay ((((s2.trans s3).trans s4).trans s5).trans s6) fun e => e).stay s7 fun e => hne e).stay s8 fun e => hne e)
 have q8 := ob8.row
 have w8 := o8.row
 repeat' (first
   | refine St.h ?_
   | simp (disch := first | omega | (simp only [lnv]; omega)) only [wlk, ↓get_put', ↓reduceIte, seval, w8.l1, q8.l1]
   | (with_reducible (first | apply cd_split | apply gd_split)) <;> (intro hc; (try simp only [hcn] at hc); (try simp only [hc]); (try simp only [hcl] at hc); try omega))
 refine ⟨trivial, ?_⟩
 repeat' (first
   | refine St.h ?_
   | simp (disch := first | omega | (simp only [lnv]; omega)) only [wlk, ↓get_put', ↓reduceIte, seval, w8.l1, q8.l1]
   | (with_reducible (first | apply cd_split | apply gd_split)) <;> (intro hc; (try simp only [hcn] at hc); (try simp only [hc]); (try simp only [hcl] at hc); try omega))
 refine ST.own o8 rfl rfl (by omega) (by omega) fun h9 o9 s9 => ?_
 have o9 : Ev.Own h9 b [u, .i .i64 (max S.log e.log), .i .i64 (max S.seq e.seq), .i .i64 S.next] := o9
 have q9 := (ob8.stay s9 fun e => hne e).row
 have w9 := o9.row
 have s69 : Stay (fun q => q = b) h h9 := (((up s16).trans s7).trans s8).trans s9
 have nb : ∀ q, isOf u q → q ≠ b := fun q hq e => by have h1 := own q hq; have := s14.next; have := a.lt.1; rw [e] at h1; omega
 have b9 : Rt h9 u M := ((b6.stay s7 nb).stay s8 nb).stay s9 nb
 have ow : ∀ q, isOf u q → isOf v q ∨ B.val h.next ≤ B.val q := fun q hq => .inr (Nat.le_trans s14.next (own q hq))
 have c9 : Tbs h9 c e.come := Ss.stay m.2 s69 hcb
 by_cases h0 : 0 < e.come.length
 · have d1 : ((0 : Int) ≤ (e.come.length : Int) - 1) = True := eq_true (by omega)
   have ei : ((e.come.length : Int) - 1).toNat = e.come.length - 1 := by omega
   have hi : e.come.length - 1 < e.come.length := by omega
   obtain ⟨i1, i2, _⟩ := isTb_iff.1 (IE.tb _ (getD_in hi))
   repeat' (first
     | refine St.h ?_
     | simp (disch := first | omega | (simp only [lnv]; omega)) only [wlk, ↓get_put', ↓reduceIte, seval, w9.l1, q9.l1, c9.ln, d1, ei, c9.ix, c9.l0]
     | (with_reducible (first | apply cd_split | apply gd_split)) <;> (intro hc; (try simp only [hcn] at hc); (try simp only [hc]); (try simp only [hcl] at hc); try omega))
   refine ST.own o9 rfl rfl (by omega) (by omega) fun ha oa sa => ?_
   have oa : Ev.Own ha b [u, .i .i64 (max S.log e.log), .i .i64 (max S.seq e.seq), .i .i64 ((e.come.getD (e.come.length - 1) default).id + 1)] := oa
   repeat' (first
     | refine St.h ?_
     | simp (disch := first | omega | (simp only [lnv]; omega)) only [wlk, ↓get_put', ↓reduceIte, seval]
     | (with_reducible (first | apply cd_split | apply gd_split)) <;> (intro hc; (try simp only [hcn] at hc); (try simp only [hc]); (try simp only [hcl] at hc); try omega))
   subst hQ
   rw [ed]
   refine ⟨rfl, u, ⟨?_, Gr.ss (b9.stay sa nb), nb⟩, ow, s69.trans sa⟩
   show Ev.Own ha b [u, .i .i64 (max S.log e.log), .i .i64 (max S.seq e.seq), .i .i64 (if 0 < e.come.length then (e.come.getD (e.come.length - 1) default).id + 1 else S.next)]
   rw [if_pos h0]; exact oa
 · have d1 : ((0 : Int) ≤ (e.come.length : Int) - 1) = False := eq_false (by omega)
   repeat' (first
     | refine St.h ?_
     | simp (disch := first | omega | (simp only [lnv]; omega)) only [wlk, ↓get_put', ↓reduceIte, seval, w9.l1, q9.l1, c9.ln, d1]
     | (with_reducible (first | apply cd_split | apply gd_split)) <;> (intro hc; (try simp only [hcn] at hc); (try simp only [hc]); (try simp only [hcl] at hc); try omega))
   subst hQ
   rw [ed]
   refine ⟨rfl, u, ⟨?_, b9.tbs, nb⟩, ow, s69⟩
   show Ev.Own h9 b [u, .i .i64 (max S.log e.log), .i .i64 (max S.seq e.seq), .i .i64 (if 0 < e.come.length then (e.come.getD (e.come.length - 1) default).id + 1 else S.next)]
   rw [if_neg h0]; exact o9
end Go.Proofs.Ytclpemggclmgeaa

set_option maxRecDepth 100000
set_option linter.all false
namespace Go.Ev
open Go
theorem h2_sT {P : Program} {ne : Bool} {kd : IntKind} {h : H} {N : Nx} {a b v w : List UInt8} {i j n m x y : Int} : H2 P (gSEq [.i, .i, .s, .s, .i] ne) (.a [.i kd i, .i kd n, sv a, sv v, .i kd x]) (.a [.i kd j, .i kd m, sv b, sv w, .i kd y]) h N = N.go P (.b (xor ne (decide (i = j ∧ n = m ∧ a = b ∧ v = w ∧ x = y)))) h := hv_of fun k => by
 unfold gSEq; rw [vA_a, vA_a]
 rw [eqL_i, eqL_i, eqL_s, eqL_s, eqL_i, eqL_n]
 by_cases h1 : i = j <;> by_cases h2 : n = m <;> by_cases h3 : a = b <;> by_cases h4 : v = w <;> by_cases h5 : x = y <;> simp [h1, h2, h3, h4, h5]
end Go.Ev
namespace Go.Proofs.Ytclpemggclmgeaa
open Go Go.Ev
structure Ek where
 gv : V
 cv : V
 e : Edt
instance : Inhabited Ek := ⟨⟨.l0, .l0, default⟩⟩
def ekC (k : Ek) : List V := [k.gv, k.cv, .i .i64 k.e.log, .i .i64 k.e.seq]
theorem ekC_len (k : Ek) : (ekC k).length = 4 := rfl
structure Eds (h : H) (v : V) (K : List Ek) : Prop where
 ss : Ss 4 ekC h v K
 es : ∀ k ∈ K, EdM h k.gv k.cv k.e
section
variable {P : Program} {h h' g' : H} {N : Nx} {v : V} {K : List Ek} {i : Nat}
theorem Eds.ln (a : Eds h v K) : H1 P gLen v g' N = N.go P (.i .i64 (K.length : Int)) g' := Ss.ln a.ss
theorem Eds.ix (a : Eds h v K) (hi : i < K.length) : IX P 4 v i g' N = N.go P (.p (lid v) (lg v) (loff v + i * 4) (lfin v)) g' := Ss.ix a.ss hi
theorem Eds.l0 (a : Eds h v K) (hi : i < K.length) : L1 P (lid v) (lg v) (loff v + i * 4) (lfin v) h N = N.go P (K.getD i default).gv h := Ss.ld (d := 0) a.ss ekC_len hi (by omega)
theorem Eds.l1 (a : Eds h v K) (hi : i < K.length) : L1 P (lid v) (lg v) (loff v + i * 4 + 1) (lfin v) h N = N.go P (K.getD i default).cv h := Ss.ld (d := 1) a.ss ekC_len hi (by omega)
theorem Eds.la (a : Eds h v K) (hi : i < K.length) : LN P (lid v) (lg v) (loff v + i * 4) (lfin v) 4 h N = N.go P (.a [(K.getD i default).gv, (K.getD i default).cv, .i .i64 (K.getD i default).e.log, .i .i64 (K.getD i default).e.seq]) h := Ss.ldA a.ss ekC_len (by omega) hi
theorem Eds.grow (a : Eds h v K) (s : Stay nowhere h h') : Eds h' v K := ⟨Ss.grow a.ss s, fun k hk => (a.es k hk).grow s⟩
theorem Eds.at (a : Eds h v K) (hi : i < K.length) : EdM h (K.getD i default).gv (K.getD i default).cv (K.getD i default).e := a.es _ (getD_in hi)
end
def Few1 (k : Ek) : Prop := k.e.gone.length ≤ 60 ∧ k.e.come.length ≤ 60 ∧ ∀ j, j < k.e.come.length → (k.e.come.getD j default).fst.length ≤ 20 ∧ (k.e.come.getD j default).lst.length ≤ 20
def FewK (K : List Ek) : Prop := K.length ≤ 20 ∧ ∀ i, i < K.length → Few1 (K.getD i default)
end Go.Proofs.Ytclpemggclmgeaa

set_option maxRecDepth 1000000
set_option linter.all false
namespace Go.Proofs.Ytclpemggclmgeaa
open Go Go.Ev
noncomputable abbrev s9_0 : CC := (CC.cond (tm 8) CC.skip (CC.exit 0))
noncomputable abbrev s9_1 : CC := (CC.seq (CC.region [(wB 5 (doMove (tm 3))), (wB 6 (doMove (tm 0))), (wB 7 (doLen (tm 6))), (wB 8 (bin2 fLss (tm 5) (tm 7)))]) s9_0)
noncomputable abbrev s9_2 : CC := (CC.seq (CC.region [(wB 2 (doMove (O.c (V.b Bool.false))))]) CC.ret)
noncomputable abbrev s9_3 : CC := (CC.cond (tm 26) s9_2 CC.skip)
noncomputable abbrev s9_4 : CC := (CC.seq (CC.region [(wB 11 (doMove (tm 0))), (wB 12 (doMove (tm 3))), (wB 13 (doIndexAddr 4 (tm 11) (tm 12))), (wB 14 (doFieldAddr 0 (tm 13))), (wB 15 (doLoad (tm 14))), (wB 16 (doLen (tm 15))), (wB 17 (bin2 fGtr (tm 16) (oN 60))), (wB 18 (doMove (tm 17))), (wG 18 false 19 (doMove (tm 0))), (wG 18 false 20 (doMove (tm 3))), (wG 18 false 21 (doIndexAddr 4 (tm 19) (tm 20))), (wG 18 false 22 (doFieldAddr 1 (tm 21))), (wG 18 false 23 (doLoad (tm 22))), (wG 18 false 24 (doLen (tm 23))), (wG 18 false 25 (bin2 fGtr (tm 24) (oN 60))), (wB 26 (doPick (tm 18) (O.c (V.b Bool.true)) (tm 25)))]) s9_3)
noncomputable abbrev s9_5 : CC := (CC.cond (tm 34) CC.skip (CC.exit 2))
noncomputable abbrev s9_6 : CC := (CC.seq (CC.region [(wB 27 (doMove (tm 4))), (wB 28 (doMove (tm 0))), (wB 29 (doMove (tm 3))), (wB 30 (doIndexAddr 4 (tm 28) (tm 29))), (wB 31 (doFieldAddr 1 (tm 30))), (wB 32 (doLoad (tm 31))), (wB 33 (doLen (tm 32))), (wB 34 (bin2 fLss (tm 27) (tm 33)))]) s9_5)
noncomputable abbrev s9_7 : CC := (CC.seq (CC.region [(wB 2 (doMove (O.c (V.b Bool.false))))]) CC.ret)
noncomputable abbrev s9_8 : CC := (CC.cond (tm 60) s9_7 CC.skip)
noncomputable abbrev s9_9 : CC := (CC.seq (CC.region [(wB 37 (doMove (tm 0))), (wB 38 (doMove (tm 3))), (wB 39 (doIndexAddr 4 (tm 37) (tm 38))), (wB 40 (doFieldAddr 1 (tm 39))), (wB 41 (doLoad (tm 40))), (wB 42 (doMove (tm 4))), (wB 43 (doIndexAddr 5 (tm 41) (tm 42))), (wB 44 (doFieldAddr 2 (tm 43))), (wB 45 (doLoad (tm 44))), (wB 46 (doLenS (tm 45))), (wB 47 (bin2 fGtr (tm 46) (oN 20))), (wB 48 (doMove (tm 47))), (wG 48 false 49 (doMove (tm 0))), (wG 48 false 50 (doMove (tm 3))), (wG 48 false 51 (doIndexAddr 4 (tm 49) (tm 50))), (wG 48 false 52 (doFieldAddr 1 (tm 51))), (wG 48 false 53 (doLoad (tm 52))), (wG 48 false 54 (doMove (tm 4))), (wG 48 false 55 (doIndexAddr 5 (tm 53) (tm 54))), (wG 48 false 56 (doFieldAddr 3 (tm 55))), (wG 48 false 57 (doLoad (tm 56))), (wG 48 false 58 (doLenS (tm 57))), (wG 48 false 59 (bin2 fGtr (tm 58) (oN 20))), (wB 60 (doPick (tm 48) (O.c (V.b Bool.true)) (tm 59)))]) s9_8)
noncomputable abbrev s9_10 : CC := (CC.block 3 s9_9)
noncomputable abbrev s9_11 : CC := (CC.region [(wB 35 (doMove (tm 4))), (wB 36 (bin2 fAdd (tm 35) (oN 1))), (wB 4 (doMove (tm 36)))])
noncomputable abbrev s9_12 : CC := (CC.seq s9_10 s9_11)
noncomputable abbrev l9_0 : CC := (CC.seq s9_6 s9_12)
noncomputable abbrev s9_13 : CC := (CC.loop l9_0)
noncomputable abbrev s9_14 : CC := (CC.block 2 s9_13)
noncomputable abbrev s9_15 : CC := (CC.seq (CC.region [(wB 4 (doMove (oN 0)))]) s9_14)
noncomputable abbrev s9_16 : CC := (CC.seq s9_4 s9_15)
noncomputable abbrev s9_17 : CC := (CC.block 1 s9_16)
noncomputable abbrev s9_18 : CC := (CC.region [(wB 9 (doMove (tm 3))), (wB 10 (bin2 fAdd (tm 9) (oN 1))), (wB 3 (doMove (tm 10)))])
noncomputable abbrev s9_19 : CC := (CC.seq s9_17 s9_18)
noncomputable abbrev l9_1 : CC := (CC.seq s9_1 s9_19)
noncomputable abbrev s9_20 : CC := (CC.loop l9_1)
noncomputable abbrev s9_21 : CC := (CC.block 0 s9_20)
noncomputable abbrev s9_22 : CC := (CC.seq (CC.region [(wB 3 (doMove (oN 0)))]) s9_21)
noncomputable abbrev s9_23 : CC := (CC.seq (CC.region [(wB 61 (doMove (tm 0))), (wB 62 (doLen (tm 61))), (wB 63 (bin2 fLeq (tm 62) (oN 20))), (wB 2 (doMove (tm 63)))]) CC.ret)
noncomputable abbrev s9_24 : CC := (CC.seq s9_22 s9_23)
noncomputable abbrev b9 : CC := (CC.seq (CC.region [(wB 2 (doMove (O.c (V.b Bool.false))))]) s9_24)
theorem c9 : compFn Try.prog 9 = ⟨64, b9, [(Rs.tmp (slOf 2))]⟩ := by kernel_rfl
noncomputable abbrev s15_0 : CC := (CC.seq (CC.draws [(uB 5 (doMove (tm 0))), (uB 6 (doPtr Bool.true (tm 5) (O.c V.p0))), (uB 7 (doMove (tm 6))), (uG 7 true 8 (doMove (tm 0))), (uG 7 true 9 (doCall 22 [(tm 8)])), (uG 7 true 10 (doMove (tm 1))), (uG 7 true 11 (doNilCheck (tm 10))), (uG 7 true 12 (doFieldAddr 0 (tm 11))), (uG 7 true 13 (doLoad (tm 12))), (wG 7 true 14 (doCall 23 [(tm 9), (tm 13)])), (uB 15 (doPick (tm 7) (tm 14) (O.c (V.b Bool.false)))), (uB 16 (doMove (tm 15))), (uG 16 true 17 (doMove (tm 0))), (wG 16 true 18 (doCall 24 [(tm 17), (oN 0)])), (uG 16 true 19 (doMove (tm 1))), (wG 16 true 20 (doCall 32 [(tm 19), (oN 0)])), (wG 16 true 21 (doCall 23 [(tm 18), (tm 20)])), (uB 22 (doPick (tm 16) (tm 21) (O.c (V.b Bool.false)))), (uB 23 (doMove (tm 22))), (uG 23 true 24 (doMove (tm 0))), (wG 23 true 25 (doCall 24 [(tm 24), (oN 1)])), (uG 23 true 26 (doMove (tm 1))), (wG 23 true 27 (doCall 32 [(tm 26), (oN 1)])), (wG 23 true 28 (doCall 23 [(tm 25), (tm 27)])), (uB 29 (doPick (tm 23) (tm 28) (O.c (V.b Bool.false)))), (uB 30 (doMove (tm 29))), (uG 30 true 31 (doMove (tm 0))), (wG 30 true 32 (doCall 24 [(tm 31), (oN 2)])), (uG 30 true 33 (doLen (tm 32))), (uG 30 true 34 (bin2 fEql (tm 33) (oN 0))), (uB 35 (doPick (tm 30) (tm 34) (O.c (V.b Bool.false)))), (uB 36 (doMove (tm 35))), (uG 36 true 37 (doMove (tm 0))), (uG 36 true 38 (doCall 19 [(tm 37)])), (uG 36 true 39 (doMove (tm 1))), (uG 36 true 40 (doNilCheck (tm 39))), (uG 36 true 41 (doFieldAddr 1 (tm 40))), (uG 36 true 42 (doLoad (tm 41))), (uG 36 true 43 (bin2 fEql (tm 38) (tm 42))), (uB 44 (doPick (tm 36) (tm 43) (O.c (V.b Bool.false)))), (uB 45 (doMove (tm 44))), (uG 45 true 46 (doMove (tm 0))), (uG 45 true 47 (doCall 20 [(tm 46)])), (uG 45 true 48 (doMove (tm 1))), (uG 45 true 49 (doNilCheck (tm 48))), (uG 45 true 50 (doFieldAddr 2 (tm 49))), (uG 45 true 51 (doLoad (tm 50))), (uG 45 true 52 (bin2 fEql (tm 47) (tm 51))), (uB 53 (doPick (tm 45) (tm 52) (O.c (V.b Bool.false)))), (uB 54 (doMove (tm 53))), (uG 54 true 55 (doMove (tm 0))), (uG 54 true 56 (doCall 21 [(tm 55)])), (uG 54 true 57 (doMove (tm 1))), (uG 54 true 58 (doNilCheck (tm 57))), (uG 54 true 59 (doFieldAddr 3 (tm 58))), (uG 54 true 60 (doLoad (tm 59))), (uG 54 true 61 (bin2 fEql (tm 56) (tm 60))), (uB 62 (doPick (tm 54) (tm 61) (O.c (V.b Bool.false)))), (uB 4 (doMove (tm 62)))] (some ([4, 9, 13, 15, 16, 20, 22, 23, 27, 33, 42, 51], [(6, [0, 5]), (8, [0, 5]), (35, [28, 34]), (37, [28, 34]), (44, [34, 43]), (46, [34, 43]), (53, [43, 52]), (55, [43, 52])]))) CC.ret)
noncomputable abbrev b15 : CC := (CC.seq (CC.region [(wB 4 (doMove (O.c (V.b Bool.false))))]) s15_0)
theorem c15 : compFn Try.prog 15 = ⟨63, b15, [(Rs.tmp (slOf 4))]⟩ := by kernel_rfl
noncomputable abbrev s3_0 : CC := (CC.seq (CC.region [(wB 2 (doMove (O.c (V.b Bool.false))))]) CC.ret)
noncomputable abbrev s3_1 : CC := (CC.cond (tm 10) s3_0 CC.skip)
noncomputable abbrev s3_2 : CC := (CC.seq (CC.region [(wB 9 (doCall 8 [])), (wB 10 (doNot (tm 9)))]) s3_1)
noncomputable abbrev s3_3 : CC := (CC.seq (CC.region [(wB 2 (doMove (O.c (V.b Bool.true))))]) CC.ret)
noncomputable abbrev s3_4 : CC := (CC.cond (tm 13) s3_3 CC.skip)
noncomputable abbrev s3_5 : CC := (CC.seq (CC.region [(wB 11 (doMove (tm 0))), (wB 12 (doCall 9 [(tm 11)])), (wB 13 (doNot (tm 12)))]) s3_4)
noncomputable abbrev s3_6 : CC := (CC.cond (tm 19) CC.skip (CC.exit 0))
noncomputable abbrev s3_7 : CC := (CC.seq (CC.region [(wB 16 (doMove (tm 5))), (wB 17 (doMove (tm 0))), (wB 18 (doLen (tm 17))), (wB 19 (bin2 fLss (tm 16) (tm 18)))]) s3_6)
noncomputable abbrev s3_8 : CC := (CC.seq (CC.region [(wB 2 (doMove (O.c (V.b Bool.false))))]) CC.ret)
noncomputable abbrev s3_9 : CC := (CC.cond (tm 50) s3_8 CC.skip)
noncomputable abbrev s3_10 : CC := (CC.seq (CC.region [(wB 42 (doMove (tm 7))), (wB 43 (doMove (tm 8))), (wB 44 (bin2 fNeq (tm 42) (tm 43))), (wB 45 (doMove (tm 44))), (wG 45 false 46 (doMove (tm 3))), (wG 45 false 47 (doMove (tm 4))), (wG 45 false 48 (doCall 15 [(tm 46), (tm 47)])), (wG 45 false 49 (doNot (tm 48))), (wB 50 (doPick (tm 45) (O.c (V.b Bool.true)) (tm 49)))]) s3_9)
noncomputable abbrev s3_11 : CC := (CC.seq (CC.draws [(uB 30 (doMove (tm 3))), (uB 31 (doMove (tm 0))), (uB 32 (doMove (tm 5))), (uB 33 (doIndexAddr 4 (tm 31) (tm 32))), (uB 34 (doLoadA 4 (tm 33))), (uB 35 (doCall 13 [(tm 30), (tm 34)])), (uB 36 (doMove (tm 4))), (uB 37 (doMove (tm 0))), (uB 38 (doMove (tm 5))), (uB 39 (doIndexAddr 4 (tm 37) (tm 38))), (uB 40 (doLoadA 4 (tm 39))), (wB 41 (doCall 14 [(tm 36), (tm 40)])), (uB 7 (doMove (tm 35))), (uB 8 (doMove (tm 41)))] (some ([5, 11], [(4, [0]), (10, [0, 6])]))) s3_10)
noncomputable abbrev s3_12 : CC := (CC.seq (CC.region [(wB 25 (doMove (tm 6))), (wB 26 (doBuild [(V.i IntKind.i64 (Int.ofNat 0)), (V.i IntKind.i64 (Int.ofNat 0)), (V.s 0 0), (V.s 0 0), (V.i IntKind.i64 (Int.ofNat 0))] [(Pt.mk 0 1 (oN 999999)), (Pt.mk 2 1 (O.c (V.s 1 113))), (Pt.mk 3 1 (O.c (V.s 1 113))), (Pt.mk 4 1 (oN 1))])), (wB 27 (doBuildSlice 32 1 [(V.i IntKind.i64 (Int.ofNat 0)), (V.i IntKind.i64 (Int.ofNat 0)), (V.s 0 0), (V.s 0 0), (V.i IntKind.i64 (Int.ofNat 0))] [(Pt.mk 0 5 (tm 26))])), (wB 28 (doBuild [V.l0, V.l0, (V.i IntKind.i64 (Int.ofNat 0)), (V.i IntKind.i64 (Int.ofNat 0))] [(Pt.mk 1 1 (tm 27))])), (wB 29 (doCall 13 [(tm 25), (tm 28)]))]) s3_11)
noncomputable abbrev s3_13 : CC := (CC.seq (CC.region [(wB 23 (doMove (tm 3))), (wB 24 (doCall 12 [(tm 23)])), (wB 3 (doMove (tm 24)))]) s3_12)
noncomputable abbrev s3_14 : CC := (CC.seq (CC.region [(wB 22 (doMove (tm 3))), (wB 6 (doMove (tm 22)))]) s3_13)
noncomputable abbrev s3_15 : CC := (CC.block 1 s3_14)
noncomputable abbrev s3_16 : CC := (CC.region [(wB 20 (doMove (tm 5))), (wB 21 (bin2 fAdd (tm 20) (oN 1))), (wB 5 (doMove (tm 21)))])
noncomputable abbrev s3_17 : CC := (CC.seq s3_15 s3_16)
noncomputable abbrev l3_0 : CC := (CC.seq s3_7 s3_17)
noncomputable abbrev s3_18 : CC := (CC.loop l3_0)
noncomputable abbrev s3_19 : CC := (CC.block 0 s3_18)
noncomputable abbrev s3_20 : CC := (CC.seq (CC.region [(wB 5 (doMove (oN 0)))]) s3_19)
noncomputable abbrev s3_21 : CC := (CC.seq (CC.region [(wB 51 (doMove (tm 3))), (wB 52 (doMove (tm 4))), (wB 53 (doCall 15 [(tm 51), (tm 52)])), (wB 2 (doMove (tm 53)))]) CC.ret)
noncomputable abbrev s3_22 : CC := (CC.seq s3_20 s3_21)
noncomputable abbrev s3_23 : CC := (CC.seq (CC.region [(wB 14 (doCall 10 [])), (wB 15 (doCall 11 [])), (wB 3 (doMove (tm 14))), (wB 4 (doMove (tm 15)))]) s3_22)
noncomputable abbrev s3_24 : CC := (CC.seq s3_5 s3_23)
noncomputable abbrev s3_25 : CC := (CC.seq s3_2 s3_24)
noncomputable abbrev b3 : CC := (CC.seq (CC.region [(wB 2 (doMove (O.c (V.b Bool.false))))]) s3_25)
theorem c3 : compFn Try.prog 3 = ⟨54, b3, [(Rs.tmp (slOf 2))]⟩ := by kernel_rfl
end Go.Proofs.Ytclpemggclmgeaa

set_option maxRecDepth 1000000
set_option linter.all false
namespace Go.Proofs.Ytclpemggclmgeaa
open Go Go.Ev
noncomputable abbrev s11_0 : CC := (CC.seq (CC.region [(wB 1 (doBuild [V.l0, (V.i IntKind.i64 (Int.ofNat 0)), (V.i IntKind.i64 (Int.ofNat 0)), (V.i IntKind.i64 (Int.ofNat 0))] [(Pt.mk 1 1 (oN 1)), (Pt.mk 3 1 (oN 1))])), (wB 2 (doBox 45 (tm 1))), (wB 0 (doMove (tm 2)))]) CC.ret)
noncomputable abbrev b11 : CC := (CC.seq (CC.region [(wB 0 (doMove (O.c V.p0)))]) s11_0)
theorem c11 : compFn Try.prog 11 = ⟨3, b11, [(Rs.tmp (slOf 0))]⟩ := by kernel_rfl
noncomputable abbrev s38_0 : CC := (CC.seq (CC.region [(wB 3 (doFieldAddr 0 (tm 1))), (wB 4 (doLoad (tm 3))), (wB 5 (bin2 fGeq (tm 4) (oN 1))), (wB 6 (doMove (tm 5))), (wG 6 true 7 (doFieldAddr 0 (tm 1))), (wG 6 true 8 (doLoad (tm 7))), (wG 6 true 9 (bin2 fLeq (tm 8) (oN 1000000))), (wB 10 (doPick (tm 6) (tm 9) (O.c (V.b Bool.false)))), (wB 11 (doMove (tm 10))), (wG 11 true 12 (doFieldAddr 1 (tm 1))), (wG 11 true 13 (doLoad (tm 12))), (wG 11 true 14 (bin2 fEql (tm 13) (oN 0))), (wG 11 true 15 (doMove (tm 14))), (wG 15 false 16 (doFieldAddr 1 (tm 1))), (wG 15 false 17 (doLoad (tm 16))), (wG 15 false 18 (bin2 fEql (tm 17) (oN 1))), (wG 11 true 19 (doPick (tm 15) (O.c (V.b Bool.true)) (tm 18))), (wB 20 (doPick (tm 11) (tm 19) (O.c (V.b Bool.false)))), (wB 21 (doMove (tm 20))), (wG 21 true 22 (doFieldAddr 2 (tm 1))), (wG 21 true 23 (doLoad (tm 22))), (wG 21 true 24 (doLenS (tm 23))), (wG 21 true 25 (bin2 fGeq (tm 24) (oN 1))), (wB 26 (doPick (tm 21) (tm 25) (O.c (V.b Bool.false)))), (wB 27 (doMove (tm 26))), (wG 27 true 28 (doFieldAddr 2 (tm 1))), (wG 27 true 29 (doLoad (tm 28))), (wG 27 true 30 (doLenS (tm 29))), (wG 27 true 31 (bin2 fLeq (tm 30) (oN 13))), (wB 32 (doPick (tm 27) (tm 31) (O.c (V.b Bool.false)))), (wB 33 (doMove (tm 32))), (wG 33 true 34 (doFieldAddr 3 (tm 1))), (wG 33 true 35 (doLoad (tm 34))), (wG 33 true 36 (doLenS (tm 35))), (wG 33 true 37 (bin2 fGeq (tm 36) (oN 1))), (wB 38 (doPick (tm 33) (tm 37) (O.c (V.b Bool.false)))), (wB 39 (doMove (tm 38))), (wG 39 true 40 (doFieldAddr 3 (tm 1))), (wG 39 true 41 (doLoad (tm 40))), (wG 39 true 42 (doLenS (tm 41))), (wG 39 true 43 (bin2 fLeq (tm 42) (oN 13))), (wB 44 (doPick (tm 39) (tm 43) (O.c (V.b Bool.false)))), (wB 45 (doMove (tm 44))), (wG 45 true 46 (doFieldAddr 2 (tm 1))), (wG 45 true 47 (doLoad (tm 46))), (wG 45 true 48 (doFieldAddr 3 (tm 1))), (wG 45 true 49 (doLoad (tm 48))), (wG 45 true 50 (doSCmp (fun a b c d => ltS a b c d || eqS a b c d) (tm 47) (tm 49))), (wB 51 (doPick (tm 45) (tm 50) (O.c (V.b Bool.false)))), (wB 52 (doMove (tm 51))), (wG 52 true 53 (doFieldAddr 4 (tm 1))), (wG 52 true 54 (doLoad (tm 53))), (wG 52 true 55 (bin2 fGeq (tm 54) (oN 1))), (wB 56 (doPick (tm 52) (tm 55) (O.c (V.b Bool.false)))), (wB 2 (doMove (tm 56)))]) CC.ret)
noncomputable abbrev b38 : CC := (CC.seq (CC.region [(wB 1 (doBox 32 (tm 0))), (wB 2 (doMove (O.c (V.b Bool.false))))]) s38_0)
theorem c38 : compFn Try.prog 38 = ⟨57, b38, [(Rs.tmp (slOf 2))]⟩ := by kernel_rfl
noncomputable abbrev s17_0 : CC := (CC.seq (CC.region [(wB 2 (doMove (O.c (V.b Bool.false))))]) CC.ret)
noncomputable abbrev s17_1 : CC := (CC.cond (tm 13) s17_0 CC.skip)
noncomputable abbrev s17_2 : CC := (CC.seq (CC.region [(wB 4 (doFieldAddr 0 (tm 1))), (wB 5 (doLoad (tm 4))), (wB 6 (doLen (tm 5))), (wB 7 (bin2 fGtr (tm 6) (oN 40))), (wB 8 (doMove (tm 7))), (wG 8 false 9 (doFieldAddr 1 (tm 1))), (wG 8 false 10 (doLoad (tm 9))), (wG 8 false 11 (doLen (tm 10))), (wG 8 false 12 (bin2 fGtr (tm 11) (oN 40))), (wB 13 (doPick (tm 8) (O.c (V.b Bool.true)) (tm 12)))]) s17_1)
noncomputable abbrev s17_3 : CC := (CC.cond (tm 18) CC.skip (CC.exit 0))
noncomputable abbrev s17_4 : CC := (CC.seq (CC.region [(wB 14 (doMove (tm 3))), (wB 15 (doFieldAddr 1 (tm 1))), (wB 16 (doLoad (tm 15))), (wB 17 (doLen (tm 16))), (wB 18 (bin2 fLss (tm 14) (tm 17)))]) s17_3)
noncomputable abbrev s17_5 : CC := (CC.seq (CC.region [(wB 2 (doMove (O.c (V.b Bool.false))))]) CC.ret)
noncomputable abbrev s17_6 : CC := (CC.cond (tm 47) s17_5 CC.skip)
noncomputable abbrev s17_7 : CC := (CC.seq (CC.draws [(uB 21 (doFieldAddr 1 (tm 1))), (wB 22 (doLoad (tm 21))), (uB 23 (doMove (tm 3))), (uB 24 (doIndexAddr 5 (tm 22) (tm 23))), (wB 25 (doLoadA 5 (tm 24))), (wB 26 (doCall 38 [(tm 25)])), (uB 27 (doNot (tm 26))), (uB 28 (doMove (tm 27))), (uG 28 false 29 (doMove (tm 3))), (uG 28 false 30 (bin2 fGtr (tm 29) (oN 0))), (uG 28 false 31 (doMove (tm 30))), (uG 31 true 32 (doFieldAddr 1 (tm 1))), (uG 31 true 33 (doLoad (tm 32))), (uG 31 true 34 (doMove (tm 3))), (uG 31 true 35 (doIndexAddr 5 (tm 33) (tm 34))), (uG 31 true 36 (doFieldAddr 0 (tm 35))), (uG 31 true 37 (doLoad (tm 36))), (uG 31 true 38 (doFieldAddr 1 (tm 1))), (uG 31 true 39 (doLoad (tm 38))), (uG 31 true 40 (doMove (tm 3))), (uG 31 true 41 (bin2 fSub (tm 40) (oN 1))), (uG 31 true 42 (doIndexAddr 5 (tm 39) (tm 41))), (uG 31 true 43 (doFieldAddr 0 (tm 42))), (uG 31 true 44 (doLoad (tm 43))), (uG 31 true 45 (bin2 fLeq (tm 37) (tm 44))), (uG 28 false 46 (doPick (tm 31) (tm 45) (O.c (V.b Bool.false)))), (uB 47 (doPick (tm 28) (O.c (V.b Bool.true)) (tm 46)))] none) s17_6)
noncomputable abbrev s17_8 : CC := (CC.block 1 s17_7)
noncomputable abbrev s17_9 : CC := (CC.region [(wB 19 (doMove (tm 3))), (wB 20 (bin2 fAdd (tm 19) (oN 1))), (wB 3 (doMove (tm 20)))])
noncomputable abbrev s17_10 : CC := (CC.seq s17_8 s17_9)
noncomputable abbrev l17_0 : CC := (CC.seq s17_4 s17_10)
noncomputable abbrev s17_11 : CC := (CC.loop l17_0)
noncomputable abbrev s17_12 : CC := (CC.block 0 s17_11)
noncomputable abbrev s17_13 : CC := (CC.seq (CC.region [(wB 3 (doMove (oN 0)))]) s17_12)
noncomputable abbrev s17_14 : CC := (CC.seq (CC.region [(wB 48 (doFieldAddr 2 (tm 1))), (wB 49 (doLoad (tm 48))), (wB 50 (bin2 fGeq (tm 49) (oN 0))), (wB 51 (doMove (tm 50))), (wG 51 true 52 (doFieldAddr 2 (tm 1))), (wG 51 true 53 (doLoad (tm 52))), (wG 51 true 54 (bin2 fLeq (tm 53) (oN 1000000))), (wB 55 (doPick (tm 51) (tm 54) (O.c (V.b Bool.false)))), (wB 56 (doMove (tm 55))), (wG 56 true 57 (doFieldAddr 3 (tm 1))), (wG 56 true 58 (doLoad (tm 57))), (wG 56 true 59 (bin2 fGeq (tm 58) (oN 0))), (wB 60 (doPick (tm 56) (tm 59) (O.c (V.b Bool.false)))), (wB 61 (doMove (tm 60))), (wG 61 true 62 (doFieldAddr 3 (tm 1))), (wG 61 true 63 (doLoad (tm 62))), (wG 61 true 64 (bin2 fLeq (tm 63) (oN 1000000))), (wB 65 (doPick (tm 61) (tm 64) (O.c (V.b Bool.false)))), (wB 2 (doMove (tm 65)))]) CC.ret)
noncomputable abbrev s17_15 : CC := (CC.seq s17_13 s17_14)
noncomputable abbrev s17_16 : CC := (CC.seq s17_2 s17_15)
noncomputable abbrev b17 : CC := (CC.seq (CC.region [(wB 1 (doBox 36 (tm 0))), (wB 2 (doMove (O.c (V.b Bool.false))))]) s17_16)
theorem c17 : compFn Try.prog 17 = ⟨66, b17, [(Rs.tmp (slOf 2))]⟩ := by kernel_rfl
noncomputable abbrev s51_0 : CC := (CC.seq (CC.region [(wB 10 (doFieldAddr 1 (tm 2))), (wB 11 (doLoad (tm 10))), (wB 12 (doFieldAddr 1 (tm 3))), (wB 13 (doLoad (tm 12))), (wB 14 (bin2 fLss (tm 11) (tm 13))), (wB 4 (doMove (tm 14)))]) CC.ret)
noncomputable abbrev s51_1 : CC := (CC.cond (tm 9) s51_0 CC.skip)
noncomputable abbrev s51_2 : CC := (CC.seq (CC.region [(wB 5 (doFieldAddr 1 (tm 2))), (wB 6 (doLoad (tm 5))), (wB 7 (doFieldAddr 1 (tm 3))), (wB 8 (doLoad (tm 7))), (wB 9 (bin2 fNeq (tm 6) (tm 8)))]) s51_1)
noncomputable abbrev s51_3 : CC := (CC.seq (CC.region [(wB 18 (doFieldAddr 0 (tm 2))), (wB 19 (doLoad (tm 18))), (wB 20 (doFieldAddr 0 (tm 3))), (wB 21 (doLoad (tm 20))), (wB 22 (bin2 fGtr (tm 19) (tm 21))), (wB 4 (doMove (tm 22)))]) CC.ret)
noncomputable abbrev s51_4 : CC := (CC.cond (tm 17) s51_3 CC.skip)
noncomputable abbrev s51_5 : CC := (CC.seq (CC.region [(wB 15 (doFieldAddr 1 (tm 2))), (wB 16 (doLoad (tm 15))), (wB 17 (bin2 fEql (tm 16) (oN 0)))]) s51_4)
noncomputable abbrev s51_6 : CC := (CC.seq (CC.region [(wB 23 (doFieldAddr 2 (tm 2))), (wB 24 (doLoad (tm 23))), (wB 25 (doFieldAddr 2 (tm 3))), (wB 26 (doLoad (tm 25))), (wB 27 (doSCmp ltS (tm 24) (tm 26))), (wB 4 (doMove (tm 27)))]) CC.ret)
noncomputable abbrev s51_7 : CC := (CC.seq s51_5 s51_6)
noncomputable abbrev s51_8 : CC := (CC.seq s51_2 s51_7)
noncomputable abbrev b51 : CC := (CC.seq (CC.region [(wB 2 (doBox 32 (tm 0))), (wB 3 (doBox 32 (tm 1))), (wB 4 (doMove (O.c (V.b Bool.false))))]) s51_8)
theorem c51 : compFn Try.prog 51 = ⟨28, b51, [(Rs.tmp (slOf 4))]⟩ := by kernel_rfl
noncomputable abbrev s31_0 : CC := (CC.cond (tm 11) CC.skip (CC.exit 0))
noncomputable abbrev s31_1 : CC := (CC.seq (CC.region [(wB 8 (doMove (tm 7))), (wB 9 (doMove (tm 0))), (wB 10 (doLen (tm 9))), (wB 11 (bin2 fLss (tm 8) (tm 10)))]) s31_0)
noncomputable abbrev s31_2 : CC := (CC.seq (CC.region [(wB 24 (doMove (tm 5))), (wB 25 (doLoadA 5 (tm 3))), (wB 26 (doBuildSlice 32 1 [(V.i IntKind.i64 (Int.ofNat 0)), (V.i IntKind.i64 (Int.ofNat 0)), (V.s 0 0), (V.s 0 0), (V.i IntKind.i64 (Int.ofNat 0))] [(Pt.mk 0 5 (tm 25))])), (wB 27 (doAppend 32 5 (tm 24) (tm 26))), (wB 5 (doMove (tm 27)))]) (CC.region [(wB 6 (doMove (O.c (V.b Bool.true))))]))
noncomputable abbrev s31_3 : CC := (CC.cond (tm 23) s31_2 CC.skip)
noncomputable abbrev s31_4 : CC := (CC.seq (CC.draws [(uB 14 (doMove (tm 6))), (uB 15 (doNot (tm 14))), (uB 16 (doMove (tm 15))), (uG 16 true 17 (doLoadA 5 (tm 3))), (uG 16 true 18 (doMove (tm 0))), (uG 16 true 19 (doMove (tm 7))), (uG 16 true 20 (doIndexAddr 5 (tm 18) (tm 19))), (uG 16 true 21 (doLoadA 5 (tm 20))), (wG 16 true 22 (doCall 51 [(tm 17), (tm 21)])), (uB 23 (doPick (tm 16) (tm 22) (O.c (V.b Bool.false))))] none) s31_3)
noncomputable abbrev s31_5 : CC := (CC.region [(wB 28 (doMove (tm 5))), (wB 29 (doMove (tm 0))), (wB 30 (doMove (tm 7))), (wB 31 (doIndexAddr 5 (tm 29) (tm 30))), (wB 32 (doLoadA 5 (tm 31))), (wB 33 (doBuildSlice 32 1 [(V.i IntKind.i64 (Int.ofNat 0)), (V.i IntKind.i64 (Int.ofNat 0)), (V.s 0 0), (V.s 0 0), (V.i IntKind.i64 (Int.ofNat 0))] [(Pt.mk 0 5 (tm 32))])), (wB 34 (doAppend 32 5 (tm 28) (tm 33))), (wB 5 (doMove (tm 34)))])
noncomputable abbrev s31_6 : CC := (CC.seq s31_4 s31_5)
noncomputable abbrev s31_7 : CC := (CC.block 1 s31_6)
noncomputable abbrev s31_8 : CC := (CC.region [(wB 12 (doMove (tm 7))), (wB 13 (bin2 fAdd (tm 12) (oN 1))), (wB 7 (doMove (tm 13)))])
noncomputable abbrev s31_9 : CC := (CC.seq s31_7 s31_8)
noncomputable abbrev l31_0 : CC := (CC.seq s31_1 s31_9)
noncomputable abbrev s31_10 : CC := (CC.loop l31_0)
noncomputable abbrev s31_11 : CC := (CC.block 0 s31_10)
noncomputable abbrev s31_12 : CC := (CC.seq (CC.region [(wB 7 (doMove (oN 0)))]) s31_11)
noncomputable abbrev s31_13 : CC := (CC.region [(wB 37 (doMove (tm 5))), (wB 38 (doLoadA 5 (tm 3))), (wB 39 (doBuildSlice 32 1 [(V.i IntKind.i64 (Int.ofNat 0)), (V.i IntKind.i64 (Int.ofNat 0)), (V.s 0 0), (V.s 0 0), (V.i IntKind.i64 (Int.ofNat 0))] [(Pt.mk 0 5 (tm 38))])), (wB 40 (doAppend 32 5 (tm 37) (tm 39))), (wB 5 (doMove (tm 40)))])
noncomputable abbrev s31_14 : CC := (CC.cond (tm 36) s31_13 CC.skip)
noncomputable abbrev s31_15 : CC := (CC.seq (CC.region [(wB 35 (doMove (tm 6))), (wB 36 (doNot (tm 35)))]) s31_14)
noncomputable abbrev s31_16 : CC := (CC.seq (CC.region [(wB 41 (doMove (tm 5))), (wB 4 (doMove (tm 41)))]) CC.ret)
noncomputable abbrev s31_17 : CC := (CC.seq s31_15 s31_16)
noncomputable abbrev s31_18 : CC := (CC.seq s31_12 s31_17)
noncomputable abbrev s31_19 : CC := (CC.seq (CC.region [(wB 6 (doMove (O.c (V.b Bool.false))))]) s31_18)
noncomputable abbrev s31_20 : CC := (CC.seq (CC.region [(wB 5 (doMove (O.c V.l0)))]) s31_19)
noncomputable abbrev b31 : CC := (CC.seq (CC.region [(wB 3 (doBox 32 (tm 1))), (wB 4 (doMove (O.c V.l0)))]) s31_20)
theorem c31 : compFn Try.prog 31 = ⟨42, b31, [(Rs.tmp (slOf 4))]⟩ := by kernel_rfl
noncomputable abbrev s30_0 : CC := (CC.cond (tm 9) CC.skip (CC.exit 0))
noncomputable abbrev s30_1 : CC := (CC.seq (CC.region [(wB 6 (doMove (tm 5))), (wB 7 (doMove (tm 0))), (wB 8 (doLen (tm 7))), (wB 9 (bin2 fLss (tm 6) (tm 8)))]) s30_0)
noncomputable abbrev s30_2 : CC := (CC.seq (CC.region [(wB 4 (doMove (O.c (V.b Bool.true))))]) CC.ret)
noncomputable abbrev s30_3 : CC := (CC.cond (tm 17) s30_2 CC.skip)
noncomputable abbrev s30_4 : CC := (CC.seq (CC.region [(wB 12 (doMove (tm 0))), (wB 13 (doMove (tm 5))), (wB 14 (doIndexAddr 1 (tm 12) (tm 13))), (wB 15 (doLoad (tm 14))), (wB 16 (doMove (tm 1))), (wB 17 (bin2 fEql (tm 15) (tm 16)))]) s30_3)
noncomputable abbrev s30_5 : CC := (CC.block 1 s30_4)
noncomputable abbrev s30_6 : CC := (CC.region [(wB 10 (doMove (tm 5))), (wB 11 (bin2 fAdd (tm 10) (oN 1))), (wB 5 (doMove (tm 11)))])
noncomputable abbrev s30_7 : CC := (CC.seq s30_5 s30_6)
noncomputable abbrev l30_0 : CC := (CC.seq s30_1 s30_7)
noncomputable abbrev s30_8 : CC := (CC.loop l30_0)
noncomputable abbrev s30_9 : CC := (CC.block 0 s30_8)
noncomputable abbrev s30_10 : CC := (CC.seq (CC.region [(wB 5 (doMove (oN 0)))]) s30_9)
noncomputable abbrev s30_11 : CC := (CC.seq (CC.region [(wB 4 (doMove (O.c (V.b Bool.false))))]) CC.ret)
noncomputable abbrev s30_12 : CC := (CC.seq s30_10 s30_11)
noncomputable abbrev b30 : CC := (CC.seq (CC.region [(wB 4 (doMove (O.c (V.b Bool.false))))]) s30_12)
theorem c30 : compFn Try.prog 30 = ⟨18, b30, [(Rs.tmp (slOf 4))]⟩ := by kernel_rfl
noncomputable abbrev s14_0 : CC := (CC.seq (CC.region [(wB 4 (doMove (oN 10)))]) CC.ret)
noncomputable abbrev s14_1 : CC := (CC.cond (tm 14) s14_0 CC.skip)
noncomputable abbrev s14_2 : CC := (CC.seq (CC.region [(wB 12 (doLoadA 4 (tm 3))), (wB 13 (doCall 17 [(tm 12)])), (wB 14 (doNot (tm 13)))]) s14_1)
noncomputable abbrev s14_3 : CC := (CC.cond (tm 21) CC.skip (CC.exit 0))
noncomputable abbrev s14_4 : CC := (CC.seq (CC.region [(wB 15 (doMove (tm 6))), (wB 16 (doMove (tm 0))), (wB 17 (doNilCheck (tm 16))), (wB 18 (doFieldAddr 0 (tm 17))), (wB 19 (doLoad (tm 18))), (wB 20 (doLen (tm 19))), (wB 21 (bin2 fLss (tm 15) (tm 20)))]) s14_3)
noncomputable abbrev s14_5 : CC := (CC.region [(wB 36 (doMove (tm 5))), (wB 37 (doMove (tm 0))), (wB 38 (doNilCheck (tm 37))), (wB 39 (doFieldAddr 0 (tm 38))), (wB 40 (doLoad (tm 39))), (wB 41 (doMove (tm 6))), (wB 42 (doIndexAddr 5 (tm 40) (tm 41))), (wB 43 (doLoadA 5 (tm 42))), (wB 44 (doBuildSlice 32 1 [(V.i IntKind.i64 (Int.ofNat 0)), (V.i IntKind.i64 (Int.ofNat 0)), (V.s 0 0), (V.s 0 0), (V.i IntKind.i64 (Int.ofNat 0))] [(Pt.mk 0 5 (tm 43))])), (wB 45 (doAppend 32 5 (tm 36) (tm 44))), (wB 5 (doMove (tm 45)))])
noncomputable abbrev s14_6 : CC := (CC.cond (tm 35) s14_5 CC.skip)
noncomputable abbrev s14_7 : CC := (CC.seq (CC.draws [(uB 24 (doFieldAddr 0 (tm 3))), (uB 25 (doLoad (tm 24))), (uB 26 (doMove (tm 0))), (uB 27 (doNilCheck (tm 26))), (uB 28 (doFieldAddr 0 (tm 27))), (uB 29 (doLoad (tm 28))), (uB 30 (doMove (tm 6))), (uB 31 (doIndexAddr 5 (tm 29) (tm 30))), (uB 32 (doFieldAddr 0 (tm 31))), (uB 33 (doLoad (tm 32))), (wB 34 (doCall 30 [(tm 25), (tm 33)])), (uB 35 (doNot (tm 34)))] none) s14_6)
noncomputable abbrev s14_8 : CC := (CC.block 1 s14_7)
noncomputable abbrev s14_9 : CC := (CC.region [(wB 22 (doMove (tm 6))), (wB 23 (bin2 fAdd (tm 22) (oN 1))), (wB 6 (doMove (tm 23)))])
noncomputable abbrev s14_10 : CC := (CC.seq s14_8 s14_9)
noncomputable abbrev l14_0 : CC := (CC.seq s14_4 s14_10)
noncomputable abbrev s14_11 : CC := (CC.loop l14_0)
noncomputable abbrev s14_12 : CC := (CC.block 0 s14_11)
noncomputable abbrev s14_13 : CC := (CC.seq (CC.region [(wB 6 (doMove (oN 0)))]) s14_12)
noncomputable abbrev s14_14 : CC := (CC.cond (tm 50) CC.skip (CC.exit 2))
noncomputable abbrev s14_15 : CC := (CC.seq (CC.region [(wB 46 (doMove (tm 7))), (wB 47 (doFieldAddr 0 (tm 3))), (wB 48 (doLoad (tm 47))), (wB 49 (doLen (tm 48))), (wB 50 (bin2 fLss (tm 46) (tm 49)))]) s14_14)
noncomputable abbrev s14_16 : CC := (CC.cond (tm 59) CC.skip (CC.exit 4))
noncomputable abbrev s14_17 : CC := (CC.seq (CC.region [(wB 53 (doMove (tm 9))), (wB 54 (doMove (tm 0))), (wB 55 (doNilCheck (tm 54))), (wB 56 (doFieldAddr 0 (tm 55))), (wB 57 (doLoad (tm 56))), (wB 58 (doLen (tm 57))), (wB 59 (bin2 fLss (tm 53) (tm 58)))]) s14_16)
noncomputable abbrev s14_18 : CC := (CC.draws [(uB 62 (doMove (tm 8))), (uB 63 (doMove (tm 62))), (uG 63 false 64 (doMove (tm 0))), (uG 63 false 65 (doNilCheck (tm 64))), (uG 63 false 66 (doFieldAddr 0 (tm 65))), (uG 63 false 67 (doLoad (tm 66))), (uG 63 false 68 (doMove (tm 9))), (uG 63 false 69 (doIndexAddr 5 (tm 67) (tm 68))), (uG 63 false 70 (doFieldAddr 0 (tm 69))), (uG 63 false 71 (doLoad (tm 70))), (uG 63 false 72 (doFieldAddr 0 (tm 3))), (uG 63 false 73 (doLoad (tm 72))), (uG 63 false 74 (doMove (tm 7))), (uG 63 false 75 (doIndexAddr 1 (tm 73) (tm 74))), (uG 63 false 76 (doLoad (tm 75))), (uG 63 false 77 (bin2 fEql (tm 71) (tm 76))), (uB 78 (doPick (tm 63) (O.c (V.b Bool.true)) (tm 77))), (uB 8 (doMove (tm 78)))] none)
noncomputable abbrev s14_19 : CC := (CC.block 5 s14_18)
noncomputable abbrev s14_20 : CC := (CC.region [(wB 60 (doMove (tm 9))), (wB 61 (bin2 fAdd (tm 60) (oN 1))), (wB 9 (doMove (tm 61)))])
noncomputable abbrev s14_21 : CC := (CC.seq s14_19 s14_20)
noncomputable abbrev l14_1 : CC := (CC.seq s14_17 s14_21)
noncomputable abbrev s14_22 : CC := (CC.loop l14_1)
noncomputable abbrev s14_23 : CC := (CC.block 4 s14_22)
noncomputable abbrev s14_24 : CC := (CC.seq (CC.region [(wB 9 (doMove (oN 0)))]) s14_23)
noncomputable abbrev s14_25 : CC := (CC.seq (CC.region [(wB 4 (doMove (oN 18)))]) CC.ret)
noncomputable abbrev s14_26 : CC := (CC.cond (tm 80) s14_25 CC.skip)
noncomputable abbrev s14_27 : CC := (CC.seq (CC.region [(wB 79 (doMove (tm 8))), (wB 80 (doNot (tm 79)))]) s14_26)
noncomputable abbrev s14_28 : CC := (CC.seq s14_24 s14_27)
noncomputable abbrev s14_29 : CC := (CC.seq (CC.region [(wB 8 (doMove (O.c (V.b Bool.false))))]) s14_28)
noncomputable abbrev s14_30 : CC := (CC.block 3 s14_29)
noncomputable abbrev s14_31 : CC := (CC.region [(wB 51 (doMove (tm 7))), (wB 52 (bin2 fAdd (tm 51) (oN 1))), (wB 7 (doMove (tm 52)))])
noncomputable abbrev s14_32 : CC := (CC.seq s14_30 s14_31)
noncomputable abbrev l14_2 : CC := (CC.seq s14_15 s14_32)
noncomputable abbrev s14_33 : CC := (CC.loop l14_2)
noncomputable abbrev s14_34 : CC := (CC.block 2 s14_33)
noncomputable abbrev s14_35 : CC := (CC.seq (CC.region [(wB 7 (doMove (oN 0)))]) s14_34)
noncomputable abbrev s14_36 : CC := (CC.seq (CC.region [(wB 4 (doMove (oN 16)))]) CC.ret)
noncomputable abbrev s14_37 : CC := (CC.cond (tm 124) s14_36 CC.skip)
noncomputable abbrev s14_38 : CC := (CC.seq (CC.draws [(uB 81 (doFieldAddr 1 (tm 3))), (wB 82 (doLoad (tm 81))), (uB 83 (doLen (tm 82))), (uB 84 (bin2 fGtr (tm 83) (oN 0))), (uB 85 (doMove (tm 84))), (uG 85 true 86 (doFieldAddr 1 (tm 3))), (uG 85 true 87 (doLoad (tm 86))), (uG 85 true 88 (doIndexAddr 5 (tm 87) (oN 0))), (uG 85 true 89 (doFieldAddr 0 (tm 88))), (uG 85 true 90 (doLoad (tm 89))), (uG 85 true 91 (doMove (tm 0))), (uG 85 true 92 (doNilCheck (tm 91))), (uG 85 true 93 (doFieldAddr 3 (tm 92))), (uG 85 true 94 (doLoad (tm 93))), (uG 85 true 95 (bin2 fLss (tm 90) (tm 94))), (uB 96 (doPick (tm 85) (tm 95) (O.c (V.b Bool.false)))), (uB 97 (doMove (tm 96))), (uG 97 false 98 (doFieldAddr 2 (tm 3))), (wG 97 false 99 (doLoad (tm 98))), (uG 97 false 100 (bin2 fGtr (tm 99) (oN 0))), (uG 97 false 101 (doMove (tm 100))), (uG 101 true 102 (doFieldAddr 2 (tm 3))), (uG 101 true 103 (doLoad (tm 102))), (uG 101 true 104 (doMove (tm 0))), (uG 101 true 105 (doNilCheck (tm 104))), (uG 101 true 106 (doFieldAddr 1 (tm 105))), (uG 101 true 107 (doLoad (tm 106))), (uG 101 true 108 (bin2 fLss (tm 103) (tm 107))), (uG 97 false 109 (doPick (tm 101) (tm 108) (O.c (V.b Bool.false)))), (uB 110 (doPick (tm 97) (O.c (V.b Bool.true)) (tm 109))), (uB 111 (doMove (tm 110))), (uG 111 false 112 (doFieldAddr 3 (tm 3))), (wG 111 false 113 (doLoad (tm 112))), (uG 111 false 114 (bin2 fGtr (tm 113) (oN 0))), (uG 111 false 115 (doMove (tm 114))), (uG 115 true 116 (doFieldAddr 3 (tm 3))), (uG 115 true 117 (doLoad (tm 116))), (uG 115 true 118 (doMove (tm 0))), (uG 115 true 119 (doNilCheck (tm 118))), (uG 115 true 120 (doFieldAddr 2 (tm 119))), (uG 115 true 121 (doLoad (tm 120))), (uG 115 true 122 (bin2 fLss (tm 117) (tm 121))), (uG 111 false 123 (doPick (tm 115) (tm 122) (O.c (V.b Bool.false)))), (uB 124 (doPick (tm 111) (O.c (V.b Bool.true)) (tm 123)))] none) s14_37)
noncomputable abbrev s14_39 : CC := (CC.cond (tm 129) CC.skip (CC.exit 6))
noncomputable abbrev s14_40 : CC := (CC.seq (CC.region [(wB 125 (doMove (tm 10))), (wB 126 (doFieldAddr 1 (tm 3))), (wB 127 (doLoad (tm 126))), (wB 128 (doLen (tm 127))), (wB 129 (bin2 fLss (tm 125) (tm 128)))]) s14_39)
noncomputable abbrev s14_41 : CC := (CC.cond (tm 135) CC.skip (CC.exit 8))
noncomputable abbrev s14_42 : CC := (CC.seq (CC.region [(wB 132 (doMove (tm 11))), (wB 133 (doMove (tm 5))), (wB 134 (doLen (tm 133))), (wB 135 (bin2 fLss (tm 132) (tm 134)))]) s14_41)
noncomputable abbrev s14_43 : CC := (CC.seq (CC.region [(wB 4 (doMove (oN 16)))]) CC.ret)
noncomputable abbrev s14_44 : CC := (CC.cond (tm 180) s14_43 CC.skip)
noncomputable abbrev s14_45 : CC := (CC.seq (CC.draws [(uB 138 (doMove (tm 5))), (uB 139 (doMove (tm 11))), (uB 140 (doIndexAddr 5 (tm 138) (tm 139))), (uB 141 (doFieldAddr 1 (tm 140))), (wB 142 (doLoad (tm 141))), (uB 143 (bin2 fEql (tm 142) (oN 1))), (uB 144 (doMove (tm 143))), (uG 144 true 145 (doFieldAddr 1 (tm 3))), (wG 144 true 146 (doLoad (tm 145))), (uG 144 true 147 (doMove (tm 10))), (uG 144 true 148 (doIndexAddr 5 (tm 146) (tm 147))), (uG 144 true 149 (doFieldAddr 1 (tm 148))), (wG 144 true 150 (doLoad (tm 149))), (uG 144 true 151 (bin2 fEql (tm 150) (oN 1))), (uB 152 (doPick (tm 144) (tm 151) (O.c (V.b Bool.false)))), (uB 153 (doMove (tm 152))), (uG 153 true 154 (doMove (tm 5))), (uG 153 true 155 (doMove (tm 11))), (uG 153 true 156 (doIndexAddr 5 (tm 154) (tm 155))), (uG 153 true 157 (doFieldAddr 2 (tm 156))), (uG 153 true 158 (doLoad (tm 157))), (uG 153 true 159 (doFieldAddr 1 (tm 3))), (uG 153 true 160 (doLoad (tm 159))), (uG 153 true 161 (doMove (tm 10))), (uG 153 true 162 (doIndexAddr 5 (tm 160) (tm 161))), (uG 153 true 163 (doFieldAddr 3 (tm 162))), (uG 153 true 164 (doLoad (tm 163))), (uG 153 true 165 (doSCmp (fun a b c d => ltS a b c d || eqS a b c d) (tm 158) (tm 164))), (uB 166 (doPick (tm 153) (tm 165) (O.c (V.b Bool.false)))), (uB 167 (doMove (tm 166))), (uG 167 true 168 (doFieldAddr 1 (tm 3))), (uG 167 true 169 (doLoad (tm 168))), (uG 167 true 170 (doMove (tm 10))), (uG 167 true 171 (doIndexAddr 5 (tm 169) (tm 170))), (uG 167 true 172 (doFieldAddr 2 (tm 171))), (uG 167 true 173 (doLoad (tm 172))), (uG 167 true 174 (doMove (tm 5))), (uG 167 true 175 (doMove (tm 11))), (uG 167 true 176 (doIndexAddr 5 (tm 174) (tm 175))), (uG 167 true 177 (doFieldAddr 3 (tm 176))), (uG 167 true 178 (doLoad (tm 177))), (uG 167 true 179 (doSCmp (fun a b c d => ltS a b c d || eqS a b c d) (tm 173) (tm 178))), (uB 180 (doPick (tm 167) (tm 179) (O.c (V.b Bool.false))))] none) s14_44)
noncomputable abbrev s14_46 : CC := (CC.block 9 s14_45)
noncomputable abbrev s14_47 : CC := (CC.region [(wB 136 (doMove (tm 11))), (wB 137 (bin2 fAdd (tm 136) (oN 1))), (wB 11 (doMove (tm 137)))])
noncomputable abbrev s14_48 : CC := (CC.seq s14_46 s14_47)
noncomputable abbrev l14_3 : CC := (CC.seq s14_42 s14_48)
noncomputable abbrev s14_49 : CC := (CC.loop l14_3)
noncomputable abbrev s14_50 : CC := (CC.block 8 s14_49)
noncomputable abbrev s14_51 : CC := (CC.seq (CC.region [(wB 11 (doMove (oN 0)))]) s14_50)
noncomputable abbrev s14_52 : CC := (CC.region [(wB 181 (doMove (tm 5))), (wB 182 (doFieldAddr 1 (tm 3))), (wB 183 (doLoad (tm 182))), (wB 184 (doMove (tm 10))), (wB 185 (doIndexAddr 5 (tm 183) (tm 184))), (wB 186 (doLoadA 5 (tm 185))), (wB 187 (doCall 31 [(tm 181), (tm 186)])), (wB 5 (doMove (tm 187)))])
noncomputable abbrev s14_53 : CC := (CC.seq s14_51 s14_52)
noncomputable abbrev s14_54 : CC := (CC.block 7 s14_53)
noncomputable abbrev s14_55 : CC := (CC.region [(wB 130 (doMove (tm 10))), (wB 131 (bin2 fAdd (tm 130) (oN 1))), (wB 10 (doMove (tm 131)))])
noncomputable abbrev s14_56 : CC := (CC.seq s14_54 s14_55)
noncomputable abbrev l14_4 : CC := (CC.seq s14_40 s14_56)
noncomputable abbrev s14_57 : CC := (CC.loop l14_4)
noncomputable abbrev s14_58 : CC := (CC.block 6 s14_57)
noncomputable abbrev s14_59 : CC := (CC.seq (CC.region [(wB 10 (doMove (oN 0)))]) s14_58)
noncomputable abbrev s14_60 : CC := (CC.seq (CC.region [(wB 4 (doMove (oN 25)))]) CC.ret)
noncomputable abbrev s14_61 : CC := (CC.cond (tm 190) s14_60 CC.skip)
noncomputable abbrev s14_62 : CC := (CC.seq (CC.region [(wB 188 (doMove (tm 5))), (wB 189 (doLen (tm 188))), (wB 190 (bin2 fGtr (tm 189) (oN 40)))]) s14_61)
noncomputable abbrev s14_63 : CC := (CC.region [(wB 219 (doMove (tm 0))), (wB 220 (doFieldAddr 1 (tm 3))), (wB 221 (doLoad (tm 220))), (wB 222 (doFieldAddr 1 (tm 3))), (wB 223 (doLoad (tm 222))), (wB 224 (doLen (tm 223))), (wB 225 (bin2 fSub (tm 224) (oN 1))), (wB 226 (doIndexAddr 5 (tm 221) (tm 225))), (wB 227 (doFieldAddr 0 (tm 226))), (wB 228 (doLoad (tm 227))), (wB 229 (bin2 fAdd (tm 228) (oN 1))), (wB 230 (doNilCheck (tm 219))), (wB 231 (doFieldAddr 3 (tm 230))), (CO.mk G.none D.none Bool.true (CR.mk (doStore 1 (tm 231) (tm 229))))])
noncomputable abbrev s14_64 : CC := (CC.cond (tm 218) s14_63 CC.skip)
noncomputable abbrev s14_65 : CC := (CC.seq (CC.region [(wB 215 (doFieldAddr 1 (tm 3))), (wB 216 (doLoad (tm 215))), (wB 217 (doLen (tm 216))), (wB 218 (bin2 fGtr (tm 217) (oN 0)))]) s14_64)
noncomputable abbrev s14_66 : CC := (CC.seq (CC.region [(wB 4 (doMove (oN 0)))]) CC.ret)
noncomputable abbrev s14_67 : CC := (CC.seq s14_65 s14_66)
noncomputable abbrev s14_68 : CC := (CC.seq (CC.draws [(uB 195 (doMove (tm 0))), (uB 196 (doMove (tm 0))), (uB 197 (doMove (tm 0))), (uB 198 (doNilCheck (tm 197))), (uB 199 (doFieldAddr 1 (tm 198))), (uB 200 (doLoad (tm 199))), (uB 201 (doFieldAddr 2 (tm 3))), (uB 202 (doLoad (tm 201))), (uB 203 (doMax (tm 200) (tm 202))), (uB 204 (doMove (tm 0))), (uB 205 (doNilCheck (tm 204))), (uB 206 (doFieldAddr 2 (tm 205))), (uB 207 (doLoad (tm 206))), (uB 208 (doFieldAddr 3 (tm 3))), (uB 209 (doLoad (tm 208))), (uB 210 (doMax (tm 207) (tm 209))), (uB 211 (doNilCheck (tm 195))), (uB 212 (doFieldAddr 1 (tm 211))), (CO.mk G.none D.none Bool.false (CR.mk (doStore 1 (tm 212) (tm 203)))), (wB 213 (doNilCheck (tm 196))), (uB 214 (doFieldAddr 2 (tm 213))), (CO.mk G.none D.none Bool.true (CR.mk (doStore 1 (tm 214) (tm 210))))] (some ([18, 21], [(3, [0]), (5, [0]), (7, [0]), (10, [0]), (12, [0]), (14, [0, 19]), (16, [0]), (19, [19])]))) s14_67)
noncomputable abbrev s14_69 : CC := (CC.seq (CC.region [(wB 191 (doMove (tm 0))), (wB 192 (doMove (tm 5))), (wB 193 (doNilCheck (tm 191))), (wB 194 (doFieldAddr 0 (tm 193))), (CO.mk G.none D.none Bool.true (CR.mk (doStore 1 (tm 194) (tm 192))))]) s14_68)
noncomputable abbrev s14_70 : CC := (CC.seq s14_62 s14_69)
noncomputable abbrev s14_71 : CC := (CC.seq s14_59 s14_70)
noncomputable abbrev s14_72 : CC := (CC.seq s14_38 s14_71)
noncomputable abbrev s14_73 : CC := (CC.seq s14_35 s14_72)
noncomputable abbrev s14_74 : CC := (CC.seq s14_13 s14_73)
noncomputable abbrev s14_75 : CC := (CC.seq (CC.region [(wB 5 (doMove (O.c V.l0)))]) s14_74)
noncomputable abbrev s14_76 : CC := (CC.seq s14_2 s14_75)
noncomputable abbrev b14 : CC := (CC.seq (CC.region [(wB 3 (doBox 36 (tm 1))), (wB 4 (doMove (oN 0)))]) s14_76)
theorem c14 : compFn Try.prog 14 = ⟨232, b14, [(Rs.tmp (slOf 4))]⟩ := by kernel_rfl
noncomputable abbrev s32_0 : CC := (CC.cond (tm 13) CC.skip (CC.exit 0))
noncomputable abbrev s32_1 : CC := (CC.seq (CC.region [(wB 7 (doMove (tm 6))), (wB 8 (doMove (tm 0))), (wB 9 (doNilCheck (tm 8))), (wB 10 (doFieldAddr 0 (tm 9))), (wB 11 (doLoad (tm 10))), (wB 12 (doLen (tm 11))), (wB 13 (bin2 fLss (tm 7) (tm 12)))]) s32_0)
noncomputable abbrev s32_2 : CC := (CC.region [(wB 26 (doMove (tm 5))), (wB 27 (doMove (tm 0))), (wB 28 (doNilCheck (tm 27))), (wB 29 (doFieldAddr 0 (tm 28))), (wB 30 (doLoad (tm 29))), (wB 31 (doMove (tm 6))), (wB 32 (doIndexAddr 5 (tm 30) (tm 31))), (wB 33 (doLoadA 5 (tm 32))), (wB 34 (doBuildSlice 32 1 [(V.i IntKind.i64 (Int.ofNat 0)), (V.i IntKind.i64 (Int.ofNat 0)), (V.s 0 0), (V.s 0 0), (V.i IntKind.i64 (Int.ofNat 0))] [(Pt.mk 0 5 (tm 33))])), (wB 35 (doAppend 32 5 (tm 26) (tm 34))), (wB 5 (doMove (tm 35)))])
noncomputable abbrev s32_3 : CC := (CC.cond (tm 25) s32_2 CC.skip)
noncomputable abbrev s32_4 : CC := (CC.seq (CC.region [(wB 16 (doMove (tm 0))), (wB 17 (doNilCheck (tm 16))), (wB 18 (doFieldAddr 0 (tm 17))), (wB 19 (doLoad (tm 18))), (wB 20 (doMove (tm 6))), (wB 21 (doIndexAddr 5 (tm 19) (tm 20))), (wB 22 (doFieldAddr 1 (tm 21))), (wB 23 (doLoad (tm 22))), (wB 24 (doMove (tm 1))), (wB 25 (bin2 fEql (tm 23) (tm 24)))]) s32_3)
noncomputable abbrev s32_5 : CC := (CC.block 1 s32_4)
noncomputable abbrev s32_6 : CC := (CC.region [(wB 14 (doMove (tm 6))), (wB 15 (bin2 fAdd (tm 14) (oN 1))), (wB 6 (doMove (tm 15)))])
noncomputable abbrev s32_7 : CC := (CC.seq s32_5 s32_6)
noncomputable abbrev l32_0 : CC := (CC.seq s32_1 s32_7)
noncomputable abbrev s32_8 : CC := (CC.loop l32_0)
noncomputable abbrev s32_9 : CC := (CC.block 0 s32_8)
noncomputable abbrev s32_10 : CC := (CC.seq (CC.region [(wB 6 (doMove (oN 0)))]) s32_9)
noncomputable abbrev s32_11 : CC := (CC.seq (CC.region [(wB 36 (doMove (tm 5))), (wB 4 (doMove (tm 36)))]) CC.ret)
noncomputable abbrev s32_12 : CC := (CC.seq s32_10 s32_11)
noncomputable abbrev s32_13 : CC := (CC.seq (CC.region [(wB 5 (doMove (O.c V.l0)))]) s32_12)
noncomputable abbrev b32 : CC := (CC.seq (CC.region [(wB 4 (doMove (O.c V.l0)))]) s32_13)
theorem c32 : compFn Try.prog 32 = ⟨37, b32, [(Rs.tmp (slOf 4))]⟩ := by kernel_rfl
noncomputable abbrev s23_0 : CC := (CC.seq (CC.region [(wB 4 (doMove (O.c (V.b Bool.false))))]) CC.ret)
noncomputable abbrev s23_1 : CC := (CC.cond (tm 10) s23_0 CC.skip)
noncomputable abbrev s23_2 : CC := (CC.seq (CC.region [(wB 6 (doMove (tm 0))), (wB 7 (doLen (tm 6))), (wB 8 (doMove (tm 1))), (wB 9 (doLen (tm 8))), (wB 10 (bin2 fNeq (tm 7) (tm 9)))]) s23_1)
noncomputable abbrev s23_3 : CC := (CC.cond (tm 14) CC.skip (CC.exit 0))
noncomputable abbrev s23_4 : CC := (CC.seq (CC.region [(wB 11 (doMove (tm 5))), (wB 12 (doMove (tm 0))), (wB 13 (doLen (tm 12))), (wB 14 (bin2 fLss (tm 11) (tm 13)))]) s23_3)
noncomputable abbrev s23_5 : CC := (CC.seq (CC.region [(wB 4 (doMove (O.c (V.b Bool.false))))]) CC.ret)
noncomputable abbrev s23_6 : CC := (CC.cond (tm 25) s23_5 CC.skip)
noncomputable abbrev s23_7 : CC := (CC.seq (CC.draws [(uB 17 (doMove (tm 0))), (uB 18 (doMove (tm 5))), (uB 19 (doIndexAddr 5 (tm 17) (tm 18))), (uB 20 (doLoadA 5 (tm 19))), (uB 21 (doMove (tm 1))), (uB 22 (doMove (tm 5))), (uB 23 (doIndexAddr 5 (tm 21) (tm 22))), (uB 24 (doLoadA 5 (tm 23))), (uB 25 (doSEq [KD.i, KD.i, KD.s, KD.s, KD.i] Bool.true (tm 20) (tm 24)))] none) s23_6)
noncomputable abbrev s23_8 : CC := (CC.block 1 s23_7)
noncomputable abbrev s23_9 : CC := (CC.region [(wB 15 (doMove (tm 5))), (wB 16 (bin2 fAdd (tm 15) (oN 1))), (wB 5 (doMove (tm 16)))])
noncomputable abbrev s23_10 : CC := (CC.seq s23_8 s23_9)
noncomputable abbrev l23_0 : CC := (CC.seq s23_4 s23_10)
noncomputable abbrev s23_11 : CC := (CC.loop l23_0)
noncomputable abbrev s23_12 : CC := (CC.block 0 s23_11)
noncomputable abbrev s23_13 : CC := (CC.seq (CC.region [(wB 5 (doMove (oN 0)))]) s23_12)
noncomputable abbrev s23_14 : CC := (CC.seq (CC.region [(wB 4 (doMove (O.c (V.b Bool.true))))]) CC.ret)
noncomputable abbrev s23_15 : CC := (CC.seq s23_13 s23_14)
noncomputable abbrev s23_16 : CC := (CC.seq s23_2 s23_15)
noncomputable abbrev b23 : CC := (CC.seq (CC.region [(wB 4 (doMove (O.c (V.b Bool.false))))]) s23_16)
theorem c23 : compFn Try.prog 23 = ⟨26, b23, [(Rs.tmp (slOf 4))]⟩ := by kernel_rfl
end Go.Proofs.Ytclpemggclmgeaa

set_option maxRecDepth 1000000
namespace Go.Proofs.Ytclpemggclmgeaa.ravelinlaw13
open Go.Ev
theorem known_run : runFn noTb Try.prog 1000 8 [] = true := by kernel_rfl
theorem known_pure : PureTrue Try.prog 8 := pure_of (noTb_ok _) (Checked.mixed Try.checked) known_run
end Go.Proofs.Ytclpemggclmgeaa.ravelinlaw13

set_option maxRecDepth 100000
set_option maxHeartbeats 8000000
set_option linter.all false
namespace Go.Proofs.Ytclpemggclmgeaa
open Go Go.Ev
theorem known13 {h : H} : FnOk Try.prog 8 [] h fun y h' => y = .b true ∧ h' = h := FnOk.of_pure ravelinlaw13.known_pure h
theorem same_ok {h : H} {x y : V} {M : List Tbl} (a : Tbs h x M) (b : Tbs h y M) (hl : M.length ≤ 1000) : FnOk Try.prog 23 [x, y] h fun y h' => y = .b true ∧ h' = h := by
 refine fn_go c23 (by intro hb; cases hb) (by simp) (by simp) fun Q hQ => ?_
 simp only [slotsF, Nat.reduceAdd]
 repeat' (first
   | refine St.h ?_
   | simp (disch := first | omega | (simp only [lnv]; omega)) only [wlk, ↓get_put', ↓reduceIte, seval, a.ln, b.ln]
   | (with_reducible (first | apply cd_split | apply gd_split)) <;> (intro hc; (try simp only [hcn] at hc); (try simp only [hc]); (try simp only [hcl] at hc); try omega))
 refine Ok.lp (fun m t g => ∃ i : Nat, m = M.length - i ∧ i ≤ M.length ∧ h = g ∧ get 0 t = x ∧ get 1 t = y ∧ get 5 t = .i .i64 (i : Int)) M.length ?_ ?_
 · simp (disch := first | omega | (simp only [lnv]; omega)) only [wlk, ↓get_put', ↓reduceIte, seval]
   refine ⟨0, by omega, by omega, ?_⟩
   refine ⟨?_, ?_, ?_, ?_⟩
   all_goals first | trivial | rfl
 rintro I hI m t g ⟨i, rfl, hi, rfl, f0, f1, f5⟩
 by_cases hil : i < M.length
 case neg =>
   obtain rfl : i = M.length := by omega
   have d1 : ((M.length : Int) < (M.length : Int)) = False := eq_false (by omega)
   repeat' (first
     | refine St.h ?_
     | simp (disch := first | omega | (simp only [lnv]; omega)) only [wlk, ↓get_put', ↓reduceIte, seval, f0, f1, f5, d1, a.ln]
     | (with_reducible (first | apply cd_split | apply gd_split)) <;> (intro hc; (try simp only [hcn] at hc); (try simp only [hc]); (try simp only [hcl] at hc); try omega))
   subst hQ
   exact ⟨rfl, rfl⟩
 have d1 : ((i : Int) < (M.length : Int)) = True := eq_true (by omega)
 repeat' (first
   | refine St.h ?_
   | simp (disch := first | omega | (simp only [lnv]; omega)) only [wlk, ↓get_put', ↓reduceIte, seval, f0, f1, f5, d1, a.ln, b.ln, a.ix, a.la, b.ix, b.la, Int.toNat_natCast, h2_sT, and_self, decide_true, Bool.xor_true, Bool.not_true]
   | (with_reducible (first | apply cd_split | apply gd_split)) <;> (intro hc; (try simp only [hcn] at hc); (try simp only [hc]); (try simp only [hcl] at hc); try omega))
 exact lp_next hI (M.length - (i + 1)) (by omega) ⟨i + 1, rfl, by omega, rfl, by simp (disch := first | omega | (simp only [lnv]; omega)) only [wlk, ↓get_put', ↓reduceIte, seval, f0], by simp (disch := first | omega | (simp only [lnv]; omega)) only [wlk, ↓get_put', ↓reduceIte, seval, f1], by simp (disch := first | omega | (simp only [lnv]; omega)) only [wlk, ↓get_put', ↓reduceIte, seval, f5]; rfl⟩
theorem few_ok {h : H} {v : V} {K : List Ek} (a : Eds h v K) (hl : K.length ≤ 9223372036854775807) : FnOk Try.prog 9 [v] h fun y h' => ∃ r, y = .b r ∧ (r = true → FewK K) ∧ h = h' := by
 refine fn_go c9 (by intro hb; cases hb) (by simp) (by simp) fun Q hQ => ?_
 simp only [slotsF, Nat.reduceAdd]
 repeat' (first
   | refine St.h ?_
   | simp (disch := first | omega | (simp only [lnv]; omega)) only [wlk, ↓get_put', ↓reduceIte, seval, a.ln]
   | (with_reducible (first | apply cd_split | apply gd_split)) <;> (intro hc; (try simp only [hcn] at hc); (try simp only [hc]); (try simp only [hcl] at hc); try omega))
 refine Ok.lp (fun m t g => ∃ i : Nat, m = K.length - i ∧ i ≤ K.length ∧ h = g ∧ get 0 t = v ∧ get 3 t = .i .i64 (i : Int) ∧ ∀ p, p < i → Few1 (K.getD p default)) K.length ?_ ?_
 · simp (disch := first | omega | (simp only [lnv]; omega)) only [wlk, ↓get_put', ↓reduceIte, seval]
   refine ⟨0, by omega, by omega, ?_⟩
   refine ⟨?_, ?_, ?_, fun p hp => by omega⟩
   all_goals first | trivial | rfl
 rintro I hI m t g ⟨i, rfl, hi, rfl, f0, f3, hall⟩
 by_cases hil : i < K.length
 case neg =>
   obtain rfl : i = K.length := by omega
   have d1 : ((K.length : Int) < (K.length : Int)) = False := eq_false (by omega)
   repeat' (first
     | refine St.h ?_
     | simp (disch := first | omega | (simp only [lnv]; omega)) only [wlk, ↓get_put', ↓reduceIte, seval, f0, f3, d1, a.ln]
     | (with_reducible (first | apply cd_split | apply gd_split)) <;> (intro hc; (try simp only [hcn] at hc); (try simp only [hc]); (try simp only [hcl] at hc); try omega))
   subst hQ
   exact ⟨_, rfl, fun hr => ⟨by have := of_decide_eq_true hr; omega, hall⟩, rfl⟩
 have d1 : ((i : Int) < (K.length : Int)) = True := eq_true (by omega)
 have m1 := a.at hil
 by_cases hg : 60 < (K.getD i default).e.gone.length
 · have d2 : ((60 : Int) < ((K.getD i default).e.gone.length : Int)) = True := eq_true (by omega)
   repeat' (first
     | refine St.h ?_
     | simp (disch := first | omega | (simp only [lnv]; omega)) only [wlk, ↓get_put', ↓reduceIte, seval, f0, f3, d1, d2, a.ln, a.ix, a.l0, m1.1.ln, Int.toNat_natCast]
     | (with_reducible (first | apply cd_split | apply gd_split)) <;> (intro hc; (try simp only [hcn] at hc); (try simp only [hc]); (try simp only [hcl] at hc); try omega))
   subst hQ
   exact ⟨_, rfl, fun hr => (by cases hr), rfl⟩
 have d2 : ((60 : Int) < ((K.getD i default).e.gone.length : Int)) = False := eq_false (by omega)
 by_cases hc : 60 < (K.getD i default).e.come.length
 · have d3 : ((60 : Int) < ((K.getD i default).e.come.length : Int)) = True := eq_true (by omega)
   repeat' (first
     | refine St.h ?_
     | simp (disch := first | omega | (simp only [lnv]; omega)) only [wlk, ↓get_put', ↓reduceIte, seval, f0, f3, d1, d2, d3, a.ln, a.ix, a.l0, a.l1, m1.1.ln, m1.2.ln, Int.toNat_natCast]
     | (with_reducible (first | apply cd_split | apply gd_split)) <;> (intro hc; (try simp only [hcn] at hc); (try simp only [hc]); (try simp only [hcl] at hc); try omega))
   subst hQ
   exact ⟨_, rfl, fun hr => (by cases hr), rfl⟩
 have d3 : ((60 : Int) < ((K.getD i default).e.come.length : Int)) = False := eq_false (by omega)
 repeat' (first
   | refine St.h ?_
   | simp (disch := first | omega | (simp only [lnv]; omega)) only [wlk, ↓get_put', ↓reduceIte, seval, f0, f3, d1, d2, d3, a.ln, a.ix, a.l0, a.l1, m1.1.ln, m1.2.ln, Int.toNat_natCast]
   | (with_reducible (first | apply cd_split | apply gd_split)) <;> (intro hc; (try simp only [hcn] at hc); (try simp only [hc]); (try simp only [hcl] at hc); try omega))
 refine Ok.lp (fun m t g => ∃ j : Nat, m = (K.getD i default).e.come.length - j ∧ j ≤ (K.getD i default).e.come.length ∧ h = g ∧ get 0 t = v ∧ get 3 t = .i .i64 (i : Int) ∧ get 4 t = .i .i64 (j : Int) ∧ ∀ p, p < j → ((K.getD i default).e.come.getD p default).fst.length ≤ 20 ∧ ((K.getD i default).e.come.getD p default).lst.length ≤ 20) (K.getD i default).e.come.length ?_ ?_
 · simp (disch := first | omega | (simp only [lnv]; omega)) only [wlk, ↓get_put', ↓reduceIte, seval, f0, f3]
   refine ⟨0, by omega, by omega, ?_⟩
   refine ⟨?_, ?_, ?_, ?_, fun p hp => by omega⟩
   all_goals first | trivial | rfl
 rintro I2 hI2 m2 t2 g2 ⟨j, rfl, hj, rfl, f0, f3, f4, hin⟩
 by_cases hjl : j < (K.getD i default).e.come.length
 case neg =>
   obtain rfl : j = (K.getD i default).e.come.length := by omega
   have d4 : (((K.getD i default).e.come.length : Int) < ((K.getD i default).e.come.length : Int)) = False := eq_false (by omega)
   repeat' (first
     | refine St.h ?_
     | simp (disch := first | omega | (simp only [lnv]; omega)) only [wlk, ↓get_put', ↓reduceIte, seval, f0, f3, f4, d4, a.ln, a.ix, a.l0, a.l1, m1.1.ln, m1.2.ln, Int.toNat_natCast]
     | (with_reducible (first | apply cd_split | apply gd_split)) <;> (intro hc; (try simp only [hcn] at hc); (try simp only [hc]); (try simp only [hcl] at hc); try omega))
   refine lp_next hI (K.length - (i + 1)) (by omega) ⟨i + 1, rfl, by omega, rfl, by simp (disch := first | omega | (simp only [lnv]; omega)) only [wlk, ↓get_put', ↓reduceIte, seval, f0], by simp (disch := first | omega | (simp only [lnv]; omega)) only [wlk, ↓get_put', ↓reduceIte, seval, f3]; rfl, fun p hp => ?_⟩
   by_cases e : p = i
   · rw [e]; exact ⟨by omega, by omega, hin⟩
   · exact hall p (by omega)
 have d4 : ((j : Int) < ((K.getD i default).e.come.length : Int)) = True := eq_true (by omega)
 by_cases hx : 20 < ((K.getD i default).e.come.getD j default).fst.length
 · have d5 : ((20 : Int) < (((K.getD i default).e.come.getD j default).fst.length : Int)) = True := eq_true (by omega)
   repeat' (first
     | refine St.h ?_
     | simp (disch := first | omega | (simp only [lnv]; omega)) only [wlk, ↓get_put', ↓reduceIte, seval, f0, f3, f4, d4, d5, a.ln, a.ix, a.l0, a.l1, m1.1.ln, m1.2.ln, m1.2.ix, m1.2.l2, Int.toNat_natCast]
     | (with_reducible (first | apply cd_split | apply gd_split)) <;> (intro hc; (try simp only [hcn] at hc); (try simp only [hc]); (try simp only [hcl] at hc); try omega))
   subst hQ
   exact ⟨_, rfl, fun hr => (by cases hr), rfl⟩
 have d5 : ((20 : Int) < (((K.getD i default).e.come.getD j default).fst.length : Int)) = False := eq_false (by omega)
 by_cases hy : 20 < ((K.getD i default).e.come.getD j default).lst.length
 · have d6 : ((20 : Int) < (((K.getD i default).e.come.getD j default).lst.length : Int)) = True := eq_true (by omega)
   repeat' (first
     | refine St.h ?_
     | simp (disch := first | omega | (simp only [lnv]; omega)) only [wlk, ↓get_put', ↓reduceIte, seval, f0, f3, f4, d4, d5, d6, a.ln, a.ix, a.l0, a.l1, m1.1.ln, m1.2.ln, m1.2.ix, m1.2.l2, m1.2.l3, Int.toNat_natCast]
     | (with_reducible (first | apply cd_split | apply gd_split)) <;> (intro hc; (try simp only [hcn] at hc); (try simp only [hc]); (try simp only [hcl] at hc); try omega))
   subst hQ
   exact ⟨_, rfl, fun hr => (by cases hr), rfl⟩
 have d6 : ((20 : Int) < (((K.getD i default).e.come.getD j default).lst.length : Int)) = False := eq_false (by omega)
 repeat' (first
   | refine St.h ?_
   | simp (disch := first | omega | (simp only [lnv]; omega)) only [wlk, ↓get_put', ↓reduceIte, seval, f0, f3, f4, d4, d5, d6, a.ln, a.ix, a.l0, a.l1, m1.1.ln, m1.2.ln, m1.2.ix, m1.2.l2, m1.2.l3, Int.toNat_natCast]
   | (with_reducible (first | apply cd_split | apply gd_split)) <;> (intro hc; (try simp only [hcn] at hc); (try simp only [hc]); (try simp only [hcl] at hc); try omega))
 refine lp_next hI2 ((K.getD i default).e.come.length - (j + 1)) (by omega) ⟨j + 1, rfl, by omega, rfl, by simp (disch := first | omega | (simp only [lnv]; omega)) only [wlk, ↓get_put', ↓reduceIte, seval, f0], by simp (disch := first | omega | (simp only [lnv]; omega)) only [wlk, ↓get_put', ↓reduceIte, seval, f3], by simp (disch := first | omega | (simp only [lnv]; omega)) only [wlk, ↓get_put', ↓reduceIte, seval, f4]; rfl, fun p hp => ?_⟩
 by_cases e : p = j
 · rw [e]; exact ⟨by omega, by omega⟩
 · exact hin p (by omega)
end Go.Proofs.Ytclpemggclmgeaa

set_option maxRecDepth 100000
set_option maxHeartbeats 8000000
set_option linter.all false
namespace Go.Proofs.Ytclpemggclmgeaa
open Go Go.Ev
theorem Eds.own {h : H} {v : V} {K : List Ek} {i : Nat} (a : Eds h v K) (hi : i < K.length) : ∀ q, isOf (K.getD i default).cv q → B.val q < B.val h.next := by
 have := (a.at hi).2
 rcases this with ⟨e, _⟩ | ⟨id, g, off, fin, cap, e, _, hl, _⟩
 · rintro q ⟨_, _, _, _, _, e2⟩; rw [e] at e2; cases e2
 · rintro q ⟨_, _, _, _, _, e2⟩; rw [e] at e2; cases e2; exact hl
theorem few_sz {k : Ek} (f : Few1 k) : ∀ t ∈ k.e.come, t.fst.length ≤ 1000000 ∧ t.lst.length ≤ 1000000 := fun t ht => by
 obtain ⟨j, hj, rfl⟩ := in_getD ht
 have := f.2.2 j hj; omega
end Go.Proofs.Ytclpemggclmgeaa

set_option linter.all false
namespace Go.Proofs.Ytclpemggclmgeaa
open Go Go.Ev Go.RowKit Go.WideShapes Go.ChangeShapes Go.ChangeAt Go.Deep
structure EdF (P : Program) (t : TypeId) (fs : Array Field) : Prop where
 ut : P.underlying t = some (.struct fs)
 sz : P.cellsOf t = 4
 f0 : ∃ f, fs.toList[0]? = some f ∧ f.offset = 0 ∧ P.cellsOf f.type = 1 ∧ ∃ e, P.underlying f.type = some (.slice e) ∧ P.cellsOf e = 1 ∧ P.underlying e = some (.int .i64)
 f1 : ∃ f, fs.toList[1]? = some f ∧ f.offset = 1 ∧ P.cellsOf f.type = 1 ∧ ∃ e gs, P.underlying f.type = some (.slice e) ∧ FlatF P e gs [.i .i64, .i .i64, .s, .s, .i .i64]
 f2 : ∃ f, fs.toList[2]? = some f ∧ f.offset = 2 ∧ P.cellsOf f.type = 1 ∧ P.underlying f.type = some (.int .i64)
 f3 : ∃ f, fs.toList[3]? = some f ∧ f.offset = 3 ∧ P.cellsOf f.type = 1 ∧ P.underlying f.type = some (.int .i64)
section
variable {H' : Type} {enc : TypeId × Value → H'} {P : Program} {W : World}
theorem str_flds {t : TypeId} {fs : Array Field} {fuel : Nat} {cs : List Value} {x : DataW H' × List MemPlace} (ut : P.underlying t = some (.struct fs)) (hd : DataW.trod enc P W 0 (fun _ => true) true fuel t cs = some x) :
   cs.length = P.cellsOf t ∧ ∀ (i : Nat) f, fs.toList[i]? = some f → ∃ n y, DataW.trod enc P W 0 (fun _ => true) true n f.type ((cs.drop f.offset).take (P.cellsOf f.type)) = some y := by
 cases fuel with
 | zero => simp [DataW.trod] at hd
 | succ n =>
   unfold DataW.trod at hd
   rw [ut] at hd
   simp only at hd
   split at hd
   · rename_i hl
     refine ⟨hl, fun i f hf => ?_⟩
     rw [Option.map_eq_some_iff] at hd
     obtain ⟨xs, hx, _⟩ := hd
     have := mapM_some_get hx i f hf
     have hlen := mapM_some_length hx
     have hi : i < xs.length := by rw [hlen]; exact (List.getElem?_eq_some_iff.1 hf).1
     exact ⟨n, xs[i], by rw [this]; simp⟩
   · cases hd
theorem ts_of {h : H} (s : Go.Ev.Start W h) (h0 : 0 < W.heap.size) {t e : TypeId} {fs : Array Field} {fuel : Nat} {cs : List Value} {x : DataW H' × List MemPlace} (ht : P.underlying t = some (.slice e)) (F : FlatF P e fs [.i .i64, .i .i64, .s, .s, .i .i64])
   (hd : DataW.trod enc P W 0 (fun _ => true) true fuel t cs = some x) : ∃ sv L, cs = [sv] ∧ Tbs h (absV W sv) L ∧ L.length ≤ 9223372036854775807 ∧ ∀ a ∈ L, True :=
 rows_of (c := tblC) (Pr := fun _ => True) tblC_len (by omega) s h0 ht F.sz (fun fuel cs x h => by
   obtain ⟨_, _, rfl, ⟨a, rfl, _⟩, _, _, rfl, ⟨b, rfl, _⟩, _, _, rfl, ⟨c, rfl, _⟩, _, _, rfl, ⟨d, rfl, _⟩, _, _, rfl, ⟨e, rfl, _⟩, rfl⟩ := flat_fits F h
   refine ⟨⟨a, b, c.data.toList, d.data.toList, e⟩, ?_, trivial⟩
   simp only [List.map_cons, List.map_nil, absV_int, absV_str]
   rfl) hd
theorem eds_of {h : H} (s : Go.Ev.Start W h) (h0 : 0 < W.heap.size) {t e : TypeId} {fs : Array Field} {fuel : Nat} {cs : List Value} {x : DataW H' × List MemPlace} (ht : P.underlying t = some (.slice e)) (F : EdF P e fs)
   (hd : DataW.trod enc P W 0 (fun _ => true) true fuel t cs = some x) : ∃ sv K, cs = [sv] ∧ Eds h (absV W sv) K ∧ K.length ≤ 9223372036854775807 ∧ ∀ a ∈ K, True := by
 obtain ⟨sv, K, e1, e2, e3, e4⟩ := rows_of (α := Ek) (c := ekC) (n := 4) (Pr := fun k => EdM h k.gv k.cv k.e) ekC_len (by omega) s h0 ht F.sz (fun fuel cs x hx => by
   obtain ⟨hl, hf⟩ := str_flds F.ut hx
   rw [F.sz] at hl
   obtain ⟨c0, c1, c2, c3, rfl⟩ : ∃ c0 c1 c2 c3, cs = [c0, c1, c2, c3] := by
     match cs, hl with
     | [a, b, c, d], _ => exact ⟨a, b, c, d, rfl⟩
   obtain ⟨f0, g0, o0, z0, t0, u0, v0, w0⟩ := F.f0
   obtain ⟨f1, g1, o1, z1, t1, gs, u1, F1⟩ := F.f1
   obtain ⟨f2, g2, o2, z2, u2⟩ := F.f2
   obtain ⟨f3, g3, o3, z3, u3⟩ := F.f3
   obtain ⟨n0, y0, k0⟩ := hf 0 f0 g0
   obtain ⟨n1, y1, k1⟩ := hf 1 f1 g1
   obtain ⟨n2, y2, k2⟩ := hf 2 f2 g2
   obtain ⟨n3, y3, k3⟩ := hf 3 f3 g3
   rw [o0, z0] at k0
   rw [o1, z1] at k1
   rw [o2, z2] at k2
   rw [o3, z3] at k3
   obtain ⟨x0, xs, e0, m0, _⟩ := lk_of s h0 u0 v0 w0 k0
   obtain ⟨x1, L, e1, m1, _⟩ := ts_of s h0 u1 F1 k1
   obtain ⟨a, e2, _⟩ := DataW.trod_int u2 k2
   obtain ⟨b, e3, _⟩ := DataW.trod_int u3 k3
   obtain rfl := (List.cons.inj (show [c0] = [x0] from e0)).1
   obtain rfl := (List.cons.inj (show [c1] = [x1] from e1)).1
   obtain rfl := (List.cons.inj (show [c2] = [_] from e2)).1
   obtain rfl := (List.cons.inj (show [c3] = [_] from e3)).1
   refine ⟨⟨absV W c0, absV W c1, ⟨xs, L, a, b⟩⟩, ?_, m0, m1⟩
   simp only [List.map_cons, List.map_nil, absV_int]
   rfl) hd
 exact ⟨sv, K, e1, ⟨e2, e4⟩, e3, fun _ _ => trivial⟩
end
end Go.Proofs.Ytclpemggclmgeaa
