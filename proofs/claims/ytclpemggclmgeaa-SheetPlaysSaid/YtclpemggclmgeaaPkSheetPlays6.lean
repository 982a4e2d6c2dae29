/- Texts of ours, without what this claim does not use: NRt1 NRt2 NRt3 NCp NPl ArgP SheetPlays. No condition. -/
import Derived.Test.YtclpemggclmgeaaPkSheetPlays5
import Derived.Test.YtclpemggclmgeaaRows
import Derived.WalkKit
import Derived.ProofKit
import Derived.OpenShut
import Derived.ChangeMaps5
set_option maxRecDepth 100000
set_option maxHeartbeats 8000000
set_option linter.all false
namespace Go.Proofs.Ytclpemggclmgeaa
open Go Go.Ev
theorem rtbl_ok {h : H} {t : Tbl} (hf : B.val h.floor ≤ B.val h.next) : FnOk Try.prog 38 [.a [.i .i64 t.id, .i .i64 t.tier, sv t.fst, sv t.lst, .i .i64 t.cnt]] h fun y h' => y = .b (isTb t) ∧ Stay nowhere h h' := by
 refine fn_go c38 (by intro hb; cases hb) (by simp) (by simp) fun Q hQ => ?_
 simp only [slotsF, Nat.reduceAdd]
 repeat' (first
   | refine St.h ?_
   | simp (disch := first | omega | (simp only [lnv]; omega)) only [wlk, ↓get_put', ↓reduceIte, seval]
   | (with_reducible (first | apply cd_split | apply gd_split)) <;> (intro hc; (try simp only [hcn] at hc); (try simp only [hc]); (try simp only [hcl] at hc); try omega))
 refine AL.own (by simp) hf fun h1 s1 n1 o1 => ?_
 have r1 := o1.row
 have hle := le_b (a := t.fst) (b := t.lst)
 cases hb : Op.bytesLess t.lst t.fst
 all_goals
   rw [hb] at hle
   simp only [Bool.not_false, Bool.not_true] at hle
   repeat' (first
     | refine St.h ?_
     | simp (disch := first | omega | (simp only [lnv]; omega)) only [wlk, ↓get_put', ↓reduceIte, seval, r1.l1, hle]
     | (with_reducible (first | apply cd_split | apply gd_split)) <;> (intro hc; (try simp only [hcn] at hc); (try simp only [hc]); (try simp only [hcl] at hc); try omega))
   all_goals
     subst hQ
     refine ⟨congrArg V.b ?_, s1⟩
     rw [Bool.eq_iff_iff, isTb_iff, hb]
     simp only [decide_eq_true_eq, Bool.false_eq_true, Bool.true_eq_false, false_and, and_false, iff_false, false_iff, true_and, not_false_eq_true]
     try omega
theorem rbefore_ok {h : H} {a b : Tbl} (hf : B.val h.floor ≤ B.val h.next) : FnOk Try.prog 51 [.a [.i .i64 a.id, .i .i64 a.tier, sv a.fst, sv a.lst, .i .i64 a.cnt], .a [.i .i64 b.id, .i .i64 b.tier, sv b.fst, sv b.lst, .i .i64 b.cnt]] h fun y h' => y = .b (ltT a b) ∧ Stay nowhere h h' := by
 refine fn_go c51 (by intro hb; cases hb) (by simp) (by simp) fun Q hQ => ?_
 simp only [slotsF, Nat.reduceAdd]
 repeat' (first
   | refine St.h ?_
   | simp (disch := first | omega | (simp only [lnv]; omega)) only [wlk, ↓get_put', ↓reduceIte, seval]
   | (with_reducible (first | apply cd_split | apply gd_split)) <;> (intro hc; (try simp only [hcn] at hc); (try simp only [hc]); (try simp only [hcl] at hc); try omega))
 refine AL.own (by simp) hf fun h1 s1 n1 o1 => ?_
 have hf1 := s1.fl hf
 repeat' (first
   | refine St.h ?_
   | simp (disch := first | omega | (simp only [lnv]; omega)) only [wlk, ↓get_put', ↓reduceIte, seval]
   | (with_reducible (first | apply cd_split | apply gd_split)) <;> (intro hc; (try simp only [hcn] at hc); (try simp only [hc]); (try simp only [hcl] at hc); try omega))
 refine AL.own (by simp) hf1 fun h2 s2 n2 o2 => ?_
 have r1 := (o1.stay s2 fun e => e).row
 have r2 := o2.row
 unfold ltT at *
 by_cases e : a.tier = b.tier
 · have d1 := eq_true e
   by_cases e0 : a.tier = 0
   · have d2 := eq_true e0
     repeat' (first
       | refine St.h ?_
       | simp (disch := first | omega | (simp only [lnv]; omega)) only [wlk, ↓get_put', ↓reduceIte, seval, r1.l1, r2.l1, d1, d2]
       | (with_reducible (first | apply cd_split | apply gd_split)) <;> (intro hc; (try simp only [hcn] at hc); (try simp only [hc]); (try simp only [hcl] at hc); try omega))
     subst hQ
     refine ⟨congrArg V.b ?_, s1.trans s2⟩
     rw [if_pos e, if_pos e0]
   · have d2 := eq_false e0
     repeat' (first
       | refine St.h ?_
       | simp (disch := first | omega | (simp only [lnv]; omega)) only [wlk, ↓get_put', ↓reduceIte, seval, r1.l1, r2.l1, d1, d2]
       | (with_reducible (first | apply cd_split | apply gd_split)) <;> (intro hc; (try simp only [hcn] at hc); (try simp only [hc]); (try simp only [hcl] at hc); try omega))
     subst hQ
     refine ⟨congrArg V.b ?_, s1.trans s2⟩
     rw [if_pos e, if_neg e0]
 · have d1 := eq_false e
   repeat' (first
     | refine St.h ?_
     | simp (disch := first | omega | (simp only [lnv]; omega)) only [wlk, ↓get_put', ↓reduceIte, seval, r1.l1, r2.l1, d1]
     | (with_reducible (first | apply cd_split | apply gd_split)) <;> (intro hc; (try simp only [hcn] at hc); (try simp only [hc]); (try simp only [hcl] at hc); try omega))
   subst hQ
   refine ⟨congrArg V.b ?_, s1.trans s2⟩
   rw [if_neg e]
theorem rgone_ok {h : H} {v : V} {xs : List Int} {x : Int} (hL : Il h v xs) (hl : xs.length ≤ 1000) : FnOk Try.prog 30 [v, .i .i64 x] h fun y h' => y = .b (goneB xs x) ∧ h' = h := by
 refine fn_go c30 (by intro hb; cases hb) (by simp) (by simp) fun Q hQ => ?_
 simp only [slotsF, Nat.reduceAdd]
 repeat' (first
   | refine St.h ?_
   | simp (disch := first | omega | (simp only [lnv]; omega)) only [wlk, ↓get_put', ↓reduceIte, seval]
   | (with_reducible (first | apply cd_split | apply gd_split)) <;> (intro hc; (try simp only [hcn] at hc); (try simp only [hc]); (try simp only [hcl] at hc); try omega))
 refine Ok.lp (fun m t g => ∃ i : Nat, m = xs.length - i ∧ i ≤ xs.length ∧ h = g ∧ get 0 t = v ∧ get 1 t = .i .i64 x ∧ get 5 t = .i .i64 (i : Int) ∧ (∀ k, k < i → xs.getD k 0 ≠ x)) xs.length ?_ ?_
 · simp (disch := first | omega | (simp only [lnv]; omega)) only [wlk, ↓get_put', ↓reduceIte, seval]
   refine ⟨0, by omega, by omega, ?_⟩
   refine ⟨?_, ?_, ?_, ?_, fun k hk => by omega⟩
   all_goals first | trivial | rfl
 rintro I hI m t g ⟨i, rfl, hi, rfl, f0, f1, f5, hno⟩
 by_cases hil : i < xs.length
 case neg =>
   obtain rfl : i = xs.length := by omega
   have d1 : ((xs.length : Int) < (xs.length : Int)) = False := eq_false (by omega)
   repeat' (first
     | refine St.h ?_
     | simp (disch := first | omega | (simp only [lnv]; omega)) only [wlk, ↓get_put', ↓reduceIte, seval, f0, f1, f5, d1, hL.ln]
     | (with_reducible (first | apply cd_split | apply gd_split)) <;> (intro hc; (try simp only [hcn] at hc); (try simp only [hc]); (try simp only [hcl] at hc); try omega))
   subst hQ
   refine ⟨congrArg V.b (Eq.symm (List.any_eq_false.2 fun y hy => ?_)), rfl⟩
   obtain ⟨k, hk, rfl⟩ := List.mem_iff_getElem.1 hy
   have := hno k hk
   simp [List.getD, hk] at this
   simpa using this
 have d1 : ((i : Int) < (xs.length : Int)) = True := eq_true (by omega)
 by_cases hx : xs.getD i 0 = x
 · have d2 := eq_true hx
   repeat' (first
     | refine St.h ?_
     | simp (disch := first | omega | (simp only [lnv]; omega)) only [wlk, ↓get_put', ↓reduceIte, seval, f0, f1, f5, d1, d2, hL.ln, hL.ix, hL.ld, Int.toNat_natCast]
     | (with_reducible (first | apply cd_split | apply gd_split)) <;> (intro hc; (try simp only [hcn] at hc); (try simp only [hc]); (try simp only [hcl] at hc); try omega))
   subst hQ
   refine ⟨congrArg V.b (Eq.symm (List.any_eq_true.2 ⟨xs.getD i 0, ?_, by simpa using hx⟩)), rfl⟩
   simp [List.getD, hil]
 · have d2 := eq_false hx
   repeat' (first
     | refine St.h ?_
     | simp (disch := first | omega | (simp only [lnv]; omega)) only [wlk, ↓get_put', ↓reduceIte, seval, f0, f1, f5, d1, d2, hL.ln, hL.ix, hL.ld, Int.toNat_natCast]
     | (with_reducible (first | apply cd_split | apply gd_split)) <;> (intro hc; (try simp only [hcn] at hc); (try simp only [hc]); (try simp only [hcl] at hc); try omega))
   refine lp_next hI (xs.length - (i + 1)) (by omega) ⟨i + 1, rfl, by omega, rfl, by simp (disch := first | omega | (simp only [lnv]; omega)) only [wlk, ↓get_put', ↓reduceIte, seval, f0], by simp (disch := first | omega | (simp only [lnv]; omega)) only [wlk, ↓get_put', ↓reduceIte, seval, f1], by simp (disch := first | omega | (simp only [lnv]; omega)) only [wlk, ↓get_put', ↓reduceIte, seval, f5]; rfl, fun k k1 => ?_⟩
   by_cases e : k = i
   · rw [e]; exact hx
   · exact hno k (by omega)
theorem rput_ok {h : H} {v : V} {L : List Tbl} {x : Tbl} (hL : Tbs h v L) (hl : L.length ≤ 1000) (hf : B.val h.floor ≤ B.val h.next) : FnOk Try.prog 31 [v, .a [.i .i64 x.id, .i .i64 x.tier, sv x.fst, sv x.lst, .i .i64 x.cnt]] h fun y h' => Rt h' y (putT L x) ∧ (∀ q, isOf y q → B.val h.next ≤ B.val q) ∧ Stay nowhere h h' := by
 refine fn_go c31 (by intro hb; cases hb) (by simp) (by simp) fun Q hQ => ?_
 simp only [slotsF, Nat.reduceAdd]
 repeat' (first
   | refine St.h ?_
   | simp (disch := first | omega | (simp only [lnv]; omega)) only [wlk, ↓get_put', ↓reduceIte, seval]
   | (with_reducible (first | apply cd_split | apply gd_split)) <;> (intro hc; (try simp only [hcn] at hc); (try simp only [hc]); (try simp only [hcl] at hc); try omega))
 refine AL.own (by simp) hf fun h1 s1 n1 o1 => ?_
 have hf1 := s1.fl hf
 repeat' (first
   | refine St.h ?_
   | simp (disch := first | omega | (simp only [lnv]; omega)) only [wlk, ↓get_put', ↓reduceIte, seval]
   | (with_reducible (first | apply cd_split | apply gd_split)) <;> (intro hc; (try simp only [hcn] at hc); (try simp only [hc]); (try simp only [hcl] at hc); try omega))
 refine Ok.lp (fun m t g => ∃ (i : Nat) (u : V) (f : Bool) (A : List Tbl), m = L.length - i ∧ i ≤ L.length ∧ get 0 t = v ∧ get 3 t = .p h.next 0 0 5 ∧ get 5 t = u ∧ get 6 t = .b f ∧ get 7 t = .i .i64 (i : Int) ∧ Rt g u A ∧ (A.length ≤ i + 1 ∧ (f = false → A.length ≤ i)) ∧ (∀ q, isOf u q → B.val h1.next ≤ B.val q) ∧ putT L x = A ++ (if f then L.drop i else putT (L.drop i) x) ∧ Stay nowhere h1 g) L.length ?_ ?_
 · simp (disch := first | omega | (simp only [lnv]; omega)) only [wlk, ↓get_put', ↓reduceIte, seval]
   refine ⟨0, .l0, false, [], by omega, by omega, ?_⟩
   refine ⟨?_, ?_, ?_, ?_, ?_, Gr.nil, ⟨by simp, by simp⟩, ?_, by simp, Stay.refl _ _⟩
   rotate_right
   · rintro i ⟨_, _, _, _, _, e⟩; cases e
   all_goals first | trivial | rfl
 rintro I hI m t g ⟨i, u, f, A, rfl, hi, f0, f3, f5, f6, f7, bu, ⟨la, lb⟩, own, eq, st⟩
 have hfg := st.fl hf1
 have Lg := hL.grow (s1.trans st)
 have og := o1.stay st fun e => e
 have rg : Row g h.next 0 0 [.i .i64 x.id, .i .i64 x.tier, sv x.fst, sv x.lst, .i .i64 x.cnt] := og.row
 by_cases hil : i < L.length
 case neg =>
   obtain rfl : i = L.length := by omega
   have d1 : ((L.length : Int) < (L.length : Int)) = False := eq_false (by omega)
   rw [List.drop_length] at eq
   cases f with
   | true =>
     rw [if_pos rfl, List.append_nil] at eq
     repeat' (first
       | refine St.h ?_
       | simp (disch := first | omega | (simp only [lnv]; omega)) only [wlk, ↓get_put', ↓reduceIte, seval, f0, f3, f5, f6, f7, d1, hL.ln]
       | (with_reducible (first | apply cd_split | apply gd_split)) <;> (intro hc; (try simp only [hcn] at hc); (try simp only [hc]); (try simp only [hcl] at hc); try omega))
     subst hQ
     rw [eq]
     exact ⟨bu, fun q hq => Nat.le_trans s1.next (own q hq), s1.trans st⟩
   | false =>
     rw [if_neg (by simp)] at eq
     repeat' (first
       | refine St.h ?_
       | simp (disch := first | omega | (simp only [lnv]; omega)) only [wlk, ↓get_put', ↓reduceIte, seval, f0, f3, f5, f6, f7, d1, hL.ln, rg.ln]
       | (with_reducible (first | apply cd_split | apply gd_split)) <;> (intro hc; (try simp only [hcn] at hc); (try simp only [hc]); (try simp only [hcl] at hc); try omega))
     refine AL.own (by simp) hfg fun g3 t3 _ o3 => ?_
     repeat' (first
       | refine St.h ?_
       | simp (disch := first | omega | (simp only [lnv]; omega)) only [wlk, ↓get_put', ↓reduceIte, seval, f0, f3, f5, f6, f7]
       | (with_reducible (first | apply cd_split | apply gd_split)) <;> (intro hc; (try simp only [hcn] at hc); (try simp only [hc]); (try simp only [hcl] at hc); try omega))
     refine push_t (x := x) (bu.grow t3) o3 (by omega) (t3.fl hfg) fun u4 g4 b4 t4 own4 => ?_
     repeat' (first
       | refine St.h ?_
       | simp (disch := first | omega | (simp only [lnv]; omega)) only [wlk, ↓get_put', ↓reduceIte, seval, f0, f3, f5, f6, f7]
       | (with_reducible (first | apply cd_split | apply gd_split)) <;> (intro hc; (try simp only [hcn] at hc); (try simp only [hc]); (try simp only [hcl] at hc); try omega))
     subst hQ
     rw [eq]
     have st3 := st.trans t3
     refine ⟨b4, fun q hq => ?_, s1.trans (st3.past' t4 fun q hq => own q hq)⟩
     rcases own4 q hq with h5 | h5
     · exact Nat.le_trans s1.next (own q h5)
     · exact Nat.le_trans (s1.trans st3).next h5
 have d1 : ((i : Int) < (L.length : Int)) = True := eq_true (by omega)
 have hdrop : L.drop i = L.getD i default :: L.drop (i + 1) := by
   rw [List.drop_eq_getElem_cons hil, List.getD_eq_getElem?_getD, List.getElem?_eq_getElem hil]; rfl
 cases f with
 | true =>
   rw [if_pos rfl, hdrop] at eq
   repeat' (first
     | refine St.h ?_
     | simp (disch := first | omega | (simp only [lnv]; omega)) only [wlk, ↓get_put', ↓reduceIte, seval, f0, f3, f5, f6, f7, d1, hL.ln, Lg.ix, Lg.la, Int.toNat_natCast]
     | (with_reducible (first | apply cd_split | apply gd_split)) <;> (intro hc; (try simp only [hcn] at hc); (try simp only [hc]); (try simp only [hcl] at hc); try omega))
   refine AL.own (by simp) hfg fun g3 t3 _ o3 => ?_
   repeat' (first
     | refine St.h ?_
     | simp (disch := first | omega | (simp only [lnv]; omega)) only [wlk, ↓get_put', ↓reduceIte, seval, f0, f3, f5, f6, f7]
     | (with_reducible (first | apply cd_split | apply gd_split)) <;> (intro hc; (try simp only [hcn] at hc); (try simp only [hc]); (try simp only [hcl] at hc); try omega))
   refine push_t (x := L.getD i default) (bu.grow t3) o3 (by omega) (t3.fl hfg) fun u4 g4 b4 t4 own4 => ?_
   repeat' (first
     | refine St.h ?_
     | simp (disch := first | omega | (simp only [lnv]; omega)) only [wlk, ↓get_put', ↓reduceIte, seval, f0, f3, f5, f6, f7]
     | (with_reducible (first | apply cd_split | apply gd_split)) <;> (intro hc; (try simp only [hcn] at hc); (try simp only [hc]); (try simp only [hcl] at hc); try omega))
   have st3 := st.trans t3
   refine lp_next hI (L.length - (i + 1)) (by omega) ⟨i + 1, u4, true, A ++ [L.getD i default], rfl, by omega, by simp (disch := first | omega | (simp only [lnv]; omega)) only [wlk, ↓get_put', ↓reduceIte, seval, f0], by simp (disch := first | omega | (simp only [lnv]; omega)) only [wlk, ↓get_put', ↓reduceIte, seval, f3], by simp (disch := first | omega | (simp only [lnv]; omega)) only [wlk, ↓get_put', ↓reduceIte, seval], by simp (disch := first | omega | (simp only [lnv]; omega)) only [wlk, ↓get_put', ↓reduceIte, seval, f6], by simp (disch := first | omega | (simp only [lnv]; omega)) only [wlk, ↓get_put', ↓reduceIte, seval, f7]; rfl, b4, ⟨by rw [List.length_append]; simp; omega, fun h => by cases h⟩, fun q hq => ?_, by rw [eq]; simp, st3.past' t4 fun q hq => own q hq⟩
   rcases own4 q hq with h5 | h5
   · exact own q h5
   · exact Nat.le_trans st3.next h5
 | false =>
   rw [if_neg (by simp), hdrop] at eq
   have eq : putT L x = A ++ (if ltT x (L.getD i default) then x :: L.getD i default :: L.drop (i + 1) else L.getD i default :: putT (L.drop (i + 1)) x) := eq
   repeat' (first
     | refine St.h ?_
     | simp (disch := first | omega | (simp only [lnv]; omega)) only [wlk, ↓get_put', ↓reduceIte, seval, f0, f3, f5, f6, f7, d1, hL.ln, Lg.ix, Lg.la, Int.toNat_natCast, rg.ln]
     | (with_reducible (first | apply cd_split | apply gd_split)) <;> (intro hc; (try simp only [hcn] at hc); (try simp only [hc]); (try simp only [hcl] at hc); try omega))
   refine CL.stay (rbefore_ok hfg) fun g2 s2 => ?_
   have st2 := st.trans s2
   have hf2 := st2.fl hf1
   have L2 := hL.grow (s1.trans st2)
   have r2 : Row g2 h.next 0 0 [.i .i64 x.id, .i .i64 x.tier, sv x.fst, sv x.lst, .i .i64 x.cnt] := (o1.stay st2 fun e => e).row
   cases hb : ltT x (L.getD i default) with
   | true =>
     rw [hb, if_pos rfl] at eq
     repeat' (first
       | refine St.h ?_
       | simp (disch := first | omega | (simp only [lnv]; omega)) only [wlk, ↓get_put', ↓reduceIte, seval, f0, f3, f5, f6, f7, r2.ln]
       | (with_reducible (first | apply cd_split | apply gd_split)) <;> (intro hc; (try simp only [hcn] at hc); (try simp only [hc]); (try simp only [hcl] at hc); try omega))
     refine AL.own (by simp) hf2 fun g3 t3 _ o3 => ?_
     repeat' (first
       | refine St.h ?_
       | simp (disch := first | omega | (simp only [lnv]; omega)) only [wlk, ↓get_put', ↓reduceIte, seval, f0, f3, f5, f6, f7]
       | (with_reducible (first | apply cd_split | apply gd_split)) <;> (intro hc; (try simp only [hcn] at hc); (try simp only [hc]); (try simp only [hcl] at hc); try omega))
     refine push_t (x := x) ((bu.grow s2).grow t3) o3 (by omega) (t3.fl hf2) fun u4 g4 b4 t4 own4 => ?_
     have st3 := st2.trans t3
     have st4 : Stay nowhere h1 g4 := st3.past' t4 fun q hq => own q hq
     have hf4 := st4.fl hf1
     have L4 := hL.grow (s1.trans st4)
     have own5 : ∀ q, isOf u4 q → B.val h1.next ≤ B.val q := fun q hq => by
       rcases own4 q hq with h5 | h5
       · exact own q h5
       · exact Nat.le_trans st3.next h5
     repeat' (first
       | refine St.h ?_
       | simp (disch := first | omega | (simp only [lnv]; omega)) only [wlk, ↓get_put', ↓reduceIte, seval, f0, f3, f5, f6, f7, L4.ix, L4.la, Int.toNat_natCast]
       | (with_reducible (first | apply cd_split | apply gd_split)) <;> (intro hc; (try simp only [hcn] at hc); (try simp only [hc]); (try simp only [hcl] at hc); try omega))
     refine AL.own (by simp) hf4 fun g5 t5 _ o5 => ?_
     repeat' (first
       | refine St.h ?_
       | simp (disch := first | omega | (simp only [lnv]; omega)) only [wlk, ↓get_put', ↓reduceIte, seval, f0, f3, f5, f6, f7]
       | (with_reducible (first | apply cd_split | apply gd_split)) <;> (intro hc; (try simp only [hcn] at hc); (try simp only [hc]); (try simp only [hcl] at hc); try omega))
     refine push_t (x := L.getD i default) (b4.grow t5) o5 (by rw [List.length_append]; simp; omega) (t5.fl hf4) fun u6 g6 b6 t6 own6 => ?_
     repeat' (first
       | refine St.h ?_
       | simp (disch := first | omega | (simp only [lnv]; omega)) only [wlk, ↓get_put', ↓reduceIte, seval, f0, f3, f5, f6, f7]
       | (with_reducible (first | apply cd_split | apply gd_split)) <;> (intro hc; (try simp only [hcn] at hc); (try simp only [hc]); (try simp only [hcl] at hc); try omega))
     have st5 := st4.trans t5
     refine lp_next hI (L.length - (i + 1)) (by omega) ⟨i + 1, u6, true, (A ++ [x]) ++ [L.getD i default], rfl, by omega, by simp (disch := first | omega | (simp only [lnv]; omega)) only [wlk, ↓get_put', ↓reduceIte, seval, f0], by simp (disch := first | omega | (simp only [lnv]; omega)) only [wlk, ↓get_put', ↓reduceIte, seval, f3], by simp (disch := first | omega | (simp only [lnv]; omega)) only [wlk, ↓get_put', ↓reduceIte, seval], by simp (disch := first | omega | (simp only [lnv]; omega)) only [wlk, ↓get_put', ↓reduceIte, seval], by simp (disch := first | omega | (simp only [lnv]; omega)) only [wlk, ↓get_put', ↓reduceIte, seval, f7]; rfl, b6, ⟨by rw [List.length_append, List.length_append]; simp; have := lb rfl; omega, fun h => by cases h⟩, fun q hq => ?_, by rw [eq]; simp, st5.past' t6 fun q hq => own5 q hq⟩
     rcases own6 q hq with h5 | h5
     · exact own5 q h5
     · exact Nat.le_trans st5.next h5
   | false =>
     rw [hb, if_neg (by simp)] at eq
     repeat' (first
       | refine St.h ?_
       | simp (disch := first | omega | (simp only [lnv]; omega)) only [wlk, ↓get_put', ↓reduceIte, seval, f0, f3, f5, f6, f7, L2.ix, L2.la, Int.toNat_natCast]
       | (with_reducible (first | apply cd_split | apply gd_split)) <;> (intro hc; (try simp only [hcn] at hc); (try simp only [hc]); (try simp only [hcl] at hc); try omega))
     refine AL.own (by simp) hf2 fun g3 t3 _ o3 => ?_
     repeat' (first
       | refine St.h ?_
       | simp (disch := first | omega | (simp only [lnv]; omega)) only [wlk, ↓get_put', ↓reduceIte, seval, f0, f3, f5, f6, f7]
       | (with_reducible (first | apply cd_split | apply gd_split)) <;> (intro hc; (try simp only [hcn] at hc); (try simp only [hc]); (try simp only [hcl] at hc); try omega))
     refine push_t (x := L.getD i default) ((bu.grow s2).grow t3) o3 (by omega) (t3.fl hf2) fun u4 g4 b4 t4 own4 => ?_
     repeat' (first
       | refine St.h ?_
       | simp (disch := first | omega | (simp only [lnv]; omega)) only [wlk, ↓get_put', ↓reduceIte, seval, f0, f3, f5, f6, f7]
       | (with_reducible (first | apply cd_split | apply gd_split)) <;> (intro hc; (try simp only [hcn] at hc); (try simp only [hc]); (try simp only [hcl] at hc); try omega))
     have st3 := st2.trans t3
     refine lp_next hI (L.length - (i + 1)) (by omega) ⟨i + 1, u4, false, A ++ [L.getD i default], rfl, by omega, by simp (disch := first | omega | (simp only [lnv]; omega)) only [wlk, ↓get_put', ↓reduceIte, seval, f0], by simp (disch := first | omega | (simp only [lnv]; omega)) only [wlk, ↓get_put', ↓reduceIte, seval, f3], by simp (disch := first | omega | (simp only [lnv]; omega)) only [wlk, ↓get_put', ↓reduceIte, seval], by simp (disch := first | omega | (simp only [lnv]; omega)) only [wlk, ↓get_put', ↓reduceIte, seval, f6], by simp (disch := first | omega | (simp only [lnv]; omega)) only [wlk, ↓get_put', ↓reduceIte, seval, f7]; rfl, b4, ⟨by rw [List.length_append]; simp; omega, fun _ => by rw [List.length_append]; simp; have := lb rfl; omega⟩, fun q hq => ?_, by rw [eq]; simp, st3.past' t4 fun q hq => own q hq⟩
     rcases own4 q hq with h5 | h5
     · exact own q h5
     · exact Nat.le_trans st3.next h5
end Go.Proofs.Ytclpemggclmgeaa

set_option maxRecDepth 100000
set_option maxHeartbeats 8000000
set_option linter.all false
namespace Go.Proofs.Ytclpemggclmgeaa
open Go Go.Ev
theorem rnew_ok {h : H} (hf : B.val h.floor ≤ B.val h.next) : FnOk Try.prog 11 [] h fun y h' => y = .p h.next 0 0 4 ∧ ShP h' h.next .l0 shtZ ∧ B.val h'.next = B.val h.next + 1 ∧ Stay nowhere h h' := by
 refine fn_go c11 (by intro hb; cases hb) (by simp) (by simp) fun Q hQ => ?_
 simp only [slotsF, Nat.reduceAdd]
 repeat' (first
   | refine St.h ?_
   | simp (disch := first | omega | (simp only [lnv]; omega)) only [wlk, ↓get_put', ↓reduceIte, seval]
   | (with_reducible (first | apply cd_split | apply gd_split)) <;> (intro hc; (try simp only [hcn] at hc); (try simp only [hc]); (try simp only [hcl] at hc); try omega))
 refine AL.own (by simp) hf fun h1 s1 n1 o1 => ?_
 repeat' (first
   | refine St.h ?_
   | simp (disch := first | omega | (simp only [lnv]; omega)) only [wlk, ↓get_put', ↓reduceIte, seval]
   | (with_reducible (first | apply cd_split | apply gd_split)) <;> (intro hc; (try simp only [hcn] at hc); (try simp only [hc]); (try simp only [hcl] at hc); try omega))
 subst hQ
 exact ⟨rfl, ⟨o1, Ss.nil, by rintro q ⟨_, _, _, _, _, e⟩; cases e⟩, n1, s1⟩
theorem redit_ok {h : H} {g c : V} {e : Edt} (a : EdM h g c e) (hl : e.gone.length ≤ 100000) (hl2 : e.come.length ≤ 100000) (hf : B.val h.floor ≤ B.val h.next) : FnOk Try.prog 17 [.a [g, c, .i .i64 e.log, .i .i64 e.seq]] h fun y h' => y = .b (isEd e) ∧ Stay nowhere h h' := by
 refine fn_go c17 (by intro hb; cases hb) (by simp) (by simp) fun Q hQ => ?_
 simp only [slotsF, Nat.reduceAdd]
 repeat' (first
   | refine St.h ?_
   | simp (disch := first | omega | (simp only [lnv]; omega)) only [wlk, ↓get_put', ↓reduceIte, seval]
   | (with_reducible (first | apply cd_split | apply gd_split)) <;> (intro hc; (try simp only [hcn] at hc); (try simp only [hc]); (try simp only [hcl] at hc); try omega))
 refine AL.own (by simp) hf fun h1 s1 n1 o1 => ?_
 have r1 := o1.row
 have a1 := a.grow s1
 by_cases hg : e.gone.length ≤ 40
 case neg =>
   have d1 : ((40 : Int) < (e.gone.length : Int)) = True := eq_true (by omega)
   repeat' (first
     | refine St.h ?_
     | simp (disch := first | omega | (simp only [lnv]; omega)) only [wlk, ↓get_put', ↓reduceIte, seval, r1.l1, a1.1.ln, d1]
     | (with_reducible (first | apply cd_split | apply gd_split)) <;> (intro hc; (try simp only [hcn] at hc); (try simp only [hc]); (try simp only [hcl] at hc); try omega))
   subst hQ
   exact ⟨congrArg V.b (by rw [isEd_eq, decide_eq_false hg]; rfl), s1⟩
 have d1 : ((40 : Int) < (e.gone.length : Int)) = False := eq_false (by omega)
 by_cases hc : e.come.length ≤ 40
 case neg =>
   have d2 : ((40 : Int) < (e.come.length : Int)) = True := eq_true (by omega)
   repeat' (first
     | refine St.h ?_
     | simp (disch := first | omega | (simp only [lnv]; omega)) only [wlk, ↓get_put', ↓reduceIte, seval, r1.l1, a1.1.ln, a1.2.ln, d1, d2]
     | (with_reducible (first | apply cd_split | apply gd_split)) <;> (intro hc; (try simp only [hcn] at hc); (try simp only [hc]); (try simp only [hcl] at hc); try omega))
   subst hQ
   exact ⟨congrArg V.b (by rw [isEd_eq, decide_eq_true hg, decide_eq_false hc]; rfl), s1⟩
 have d2 : ((40 : Int) < (e.come.length : Int)) = False := eq_false (by omega)
 have hE : isEd e = (upsT e.come e.come.length && (decide (0 ≤ e.log ∧ e.log ≤ 1000000) && decide (0 ≤ e.seq ∧ e.seq ≤ 1000000))) := by rw [isEd_eq, decide_eq_true hg, decide_eq_true hc]; rfl
 repeat' (first
   | refine St.h ?_
   | simp (disch := first | omega | (simp only [lnv]; omega)) only [wlk, ↓get_put', ↓reduceIte, seval, r1.l1, a1.1.ln, a1.2.ln, d1, d2]
   | (with_reducible (first | apply cd_split | apply gd_split)) <;> (intro hc; (try simp only [hcn] at hc); (try simp only [hc]); (try simp only [hcl] at hc); try omega))
 refine Ok.lp (fun m t g => ∃ i : Nat, m = e.come.length - i ∧ i ≤ e.come.length ∧ get 1 t = .p h.next 0 0 4 ∧ get 3 t = .i .i64 (i : Int) ∧ upsT e.come i = true ∧ Stay nowhere h1 g) e.come.length ?_ ?_
 · simp (disch := first | omega | (simp only [lnv]; omega)) only [wlk, ↓get_put', ↓reduceIte, seval]
   refine ⟨0, by omega, by omega, ?_⟩
   refine ⟨?_, ?_, rfl, Stay.refl _ _⟩
   all_goals first | trivial | rfl
 rintro I hI m t g2 ⟨i, rfl, hi, f1, f3, hup, st⟩
 have r2 := (o1.stay st fun e => e).row
 have a2 := a1.grow st
 have hf2 := st.fl (s1.fl hf)
 by_cases hil : i < e.come.length
 case neg =>
   obtain rfl : i = e.come.length := by omega
   have d3 : ((e.come.length : Int) < (e.come.length : Int)) = False := eq_false (by omega)
   rw [hup, Bool.true_and] at hE
   repeat' (first
     | refine St.h ?_
     | simp (disch := first | omega | (simp only [lnv]; omega)) only [wlk, ↓get_put', ↓reduceIte, seval, f1, f3, d3, r2.l1, a2.2.ln]
     | (with_reducible (first | apply cd_split | apply gd_split)) <;> (intro hc; (try simp only [hcn] at hc); (try simp only [hc]); (try simp only [hcl] at hc); try omega))
   all_goals
     subst hQ
     refine ⟨congrArg V.b ?_, s1.trans st⟩
     rw [Bool.eq_iff_iff, hE]
     simp only [Bool.and_eq_true, decide_eq_true_eq, Bool.false_eq_true, false_iff]
     omega
 have d3 : ((i : Int) < (e.come.length : Int)) = True := eq_true (by omega)
 have no : upT e.come i = false → isEd e = false := fun hx => by rw [hE, upsT_no hil hx]; rfl
 repeat' (first
   | refine St.h ?_
   | simp (disch := first | omega | (simp only [lnv]; omega)) only [wlk, ↓get_put', ↓reduceIte, seval, f1, f3, d3, r2.l1, a2.2.ln, a2.2.ix, a2.2.la, Int.toNat_natCast]
   | (with_reducible (first | apply cd_split | apply gd_split)) <;> (intro hc; (try simp only [hcn] at hc); (try simp only [hc]); (try simp only [hcl] at hc); try omega))
 refine CL.stay (rtbl_ok hf2) fun g5 s5 => ?_
 have st5 := st.trans s5
 have r5 := (o1.stay st5 fun e => e).row
 have a5 := a1.grow st5
 cases hb : isTb (e.come.getD i default) with
 | false =>
   repeat' (first
     | refine St.h ?_
     | simp (disch := first | omega | (simp only [lnv]; omega)) only [wlk, ↓get_put', ↓reduceIte, seval, f1, f3]
     | (with_reducible (first | apply cd_split | apply gd_split)) <;> (intro hc; (try simp only [hcn] at hc); (try simp only [hc]); (try simp only [hcl] at hc); try omega))
   subst hQ
   exact ⟨congrArg V.b (no (by unfold upT; rw [hb]; rfl)).symm, s1.trans st5⟩
 | true =>
 by_cases h0 : i = 0
 · have hu : upT e.come i = true := by unfold upT; rw [hb, decide_eq_true h0]; rfl
   have d4 : ((0 : Int) < (i : Int)) = False := eq_false (by omega)
   repeat' (first
     | refine St.h ?_
     | simp (disch := first | omega | (simp only [lnv]; omega)) only [wlk, ↓get_put', ↓reduceIte, seval, f1, f3, d4]
     | (with_reducible (first | apply cd_split | apply gd_split)) <;> (intro hc; (try simp only [hcn] at hc); (try simp only [hc]); (try simp only [hcl] at hc); try omega))
   exact lp_next hI (e.come.length - (i + 1)) (by omega) ⟨i + 1, rfl, by omega, by simp (disch := first | omega | (simp only [lnv]; omega)) only [wlk, ↓get_put', ↓reduceIte, seval, f1], by simp (disch := first | omega | (simp only [lnv]; omega)) only [wlk, ↓get_put', ↓reduceIte, seval, f3]; rfl, by rw [upsT_succ, hup, hu]; rfl, st5⟩
 · have d4 : ((0 : Int) < (i : Int)) = True := eq_true (by omega)
   have ei : ((i : Int) - 1).toNat = i - 1 := by omega
   by_cases hlt : (e.come.getD (i - 1) default).id < (e.come.getD i default).id
   · have hu : upT e.come i = true := by unfold upT; rw [hb, decide_eq_true hlt, Bool.or_true]; rfl
     have d5 : ((e.come.getD i default).id ≤ (e.come.getD (i - 1) default).id) = False := eq_false (by omega)
     repeat' (first
       | refine St.h ?_
       | simp (disch := first | omega | (simp only [lnv]; omega)) only [wlk, ↓get_put', ↓reduceIte, seval, f1, f3, d4, d5, ei, r5.l1, a5.2.ix, a5.2.l0, Int.toNat_natCast]
       | (with_reducible (first | apply cd_split | apply gd_split)) <;> (intro hc; (try simp only [hcn] at hc); (try simp only [hc]); (try simp only [hcl] at hc); try omega))
     exact lp_next hI (e.come.length - (i + 1)) (by omega) ⟨i + 1, rfl, by omega, by simp (disch := first | omega | (simp only [lnv]; omega)) only [wlk, ↓get_put', ↓reduceIte, seval, f1], by simp (disch := first | omega | (simp only [lnv]; omega)) only [wlk, ↓get_put', ↓reduceIte, seval, f3]; rfl, by rw [upsT_succ, hup, hu]; rfl, st5⟩
   · have hu : upT e.come i = false := by unfold upT; rw [hb, decide_eq_false hlt, decide_eq_false h0]; rfl
     have d5 : ((e.come.getD i default).id ≤ (e.come.getD (i - 1) default).id) = True := eq_true (by omega)
     repeat' (first
       | refine St.h ?_
       | simp (disch := first | omega | (simp only [lnv]; omega)) only [wlk, ↓get_put', ↓reduceIte, seval, f1, f3, d4, d5, ei, r5.l1, a5.2.ix, a5.2.l0, Int.toNat_natCast]
       | (with_reducible (first | apply cd_split | apply gd_split)) <;> (intro hc; (try simp only [hcn] at hc); (try simp only [hc]); (try simp only [hcl] at hc); try omega))
     subst hQ
     exact ⟨congrArg V.b (no hu).symm, s1.trans st5⟩
theorem take_push {L : List Tbl} {p : Tbl → Bool} {j : Nat} (hj : j < L.length) : (L.take (j + 1)).filter p = (L.take j).filter p ++ (if p (L.getD j default) then [L.getD j default] else []) := by
 have : L.take (j + 1) = L.take j ++ [L.getD j default] := by rw [List.take_succ]; simp [List.getD, hj]
 rw [this, List.filter_append]
 cases hb : p (L.getD j default) with
 | true => rw [List.filter_cons, if_pos hb]; rfl
 | false => rw [List.filter_cons, if_neg (by rw [hb]; simp)]; rfl
theorem rtier_ok {h : H} {b : B} {v : V} {S : Sht} {k : Int} (a : ShP h b v S) (hl : S.L.length ≤ 1000) (hf : B.val h.floor ≤ B.val h.next) : FnOk Try.prog 32 [.p b 0 0 4, .i .i64 k] h fun y h' => Tbs h' y (S.L.filter fun t => decide (t.tier = k)) ∧ Stay nowhere h h' := by
 refine fn_go c32 (by intro hb; cases hb) (by simp) (by simp) fun Q hQ => ?_
 simp only [slotsF, Nat.reduceAdd]
 repeat' (first
   | refine St.h ?_
   | simp (disch := first | omega | (simp only [lnv]; omega)) only [wlk, ↓get_put', ↓reduceIte, seval]
   | (with_reducible (first | apply cd_split | apply gd_split)) <;> (intro hc; (try simp only [hcn] at hc); (try simp only [hc]); (try simp only [hcl] at hc); try omega))
 refine Ok.lp (fun m t g => ∃ (i : Nat) (u : V), m = S.L.length - i ∧ i ≤ S.L.length ∧ get 0 t = .p b 0 0 4 ∧ get 1 t = .i .i64 k ∧ get 5 t = u ∧ get 6 t = .i .i64 (i : Int) ∧ Rt g u ((S.L.take i).filter fun t => decide (t.tier = k)) ∧ (∀ q, isOf u q → B.val h.next ≤ B.val q) ∧ Stay nowhere h g) S.L.length ?_ ?_
 · simp (disch := first | omega | (simp only [lnv]; omega)) only [wlk, ↓get_put', ↓reduceIte, seval]
   refine ⟨0, .l0, by omega, by omega, ?_⟩
   refine ⟨?_, ?_, ?_, ?_, Gr.nil, ?_, Stay.refl _ _⟩
   rotate_right
   · rintro i ⟨_, _, _, _, _, e⟩; cases e
   all_goals first | trivial | rfl
 rintro I hI m t g ⟨i, u, rfl, hi, f0, f1, f5, f6, bu, own, st⟩
 have hfg := st.fl hf
 have ag := a.grow st
 have rg := ag.1.row
 have Lg := ag.2.1
 by_cases hil : i < S.L.length
 case neg =>
   obtain rfl : i = S.L.length := by omega
   rw [List.take_length] at bu
   have d1 : ((S.L.length : Int) < (S.L.length : Int)) = False := eq_false (by omega)
   repeat' (first
     | refine St.h ?_
     | simp (disch := first | omega | (simp only [lnv]; omega)) only [wlk, ↓get_put', ↓reduceIte, seval, f0, f1, f5, f6, d1, rg.l1, Lg.ln]
     | (with_reducible (first | apply cd_split | apply gd_split)) <;> (intro hc; (try simp only [hcn] at hc); (try simp only [hc]); (try simp only [hcl] at hc); try omega))
   subst hQ
   exact ⟨bu.tbs, st⟩
 have d1 : ((i : Int) < (S.L.length : Int)) = True := eq_true (by omega)
 have hlen : ((S.L.take i).filter fun t => decide (t.tier = k)).length ≤ 1000 := by
   have := List.length_filter_le (fun t : Tbl => decide (t.tier = k)) (S.L.take i)
   rw [List.length_take] at this; omega
 have filt := take_push (p := fun t => decide (t.tier = k)) hil
 by_cases hk : (S.L.getD i default).tier = k
 · have d2 := eq_true hk
   rw [decide_eq_true hk, if_pos rfl] at filt
   repeat' (first
     | refine St.h ?_
     | simp (disch := first | omega | (simp only [lnv]; omega)) only [wlk, ↓get_put', ↓reduceIte, seval, f0, f1, f5, f6, d1, d2, rg.l1, Lg.ln, Lg.ix, Lg.l1, Lg.la, Int.toNat_natCast]
     | (with_reducible (first | apply cd_split | apply gd_split)) <;> (intro hc; (try simp only [hcn] at hc); (try simp only [hc]); (try simp only [hcl] at hc); try omega))
   refine AL.own (by simp) hfg fun g3 t3 _ o3 => ?_
   repeat' (first
     | refine St.h ?_
     | simp (disch := first | omega | (simp only [lnv]; omega)) only [wlk, ↓get_put', ↓reduceIte, seval, f0, f1, f5, f6]
     | (with_reducible (first | apply cd_split | apply gd_split)) <;> (intro hc; (try simp only [hcn] at hc); (try simp only [hc]); (try simp only [hcl] at hc); try omega))
   refine push_t (x := S.L.getD i default) (bu.grow t3) o3 (by omega) (t3.fl hfg) fun u4 g4 b4 t4 own4 => ?_
   repeat' (first
     | refine St.h ?_
     | simp (disch := first | omega | (simp only [lnv]; omega)) only [wlk, ↓get_put', ↓reduceIte, seval, f0, f1, f5, f6]
     | (with_reducible (first | apply cd_split | apply gd_split)) <;> (intro hc; (try simp only [hcn] at hc); (try simp only [hc]); (try simp only [hcl] at hc); try omega))
   have st3 := st.trans t3
   refine lp_next hI (S.L.length - (i + 1)) (by omega) ⟨i + 1, u4, rfl, by omega, by simp (disch := first | omega | (simp only [lnv]; omega)) only [wlk, ↓get_put', ↓reduceIte, seval, f0], by simp (disch := first | omega | (simp only [lnv]; omega)) only [wlk, ↓get_put', ↓reduceIte, seval, f1], by simp (disch := first | omega | (simp only [lnv]; omega)) only [wlk, ↓get_put', ↓reduceIte, seval], by simp (disch := first | omega | (simp only [lnv]; omega)) only [wlk, ↓get_put', ↓reduceIte, seval, f6]; rfl, by rw [filt]; exact b4, fun q hq => ?_, st3.past' t4 fun q hq => own q hq⟩
   rcases own4 q hq with h5 | h5
   · exact own q h5
   · exact Nat.le_trans st3.next h5
 · have d2 := eq_false hk
   rw [decide_eq_false hk, if_neg (by simp), List.append_nil] at filt
   repeat' (first
     | refine St.h ?_
     | simp (disch := first | omega | (simp only [lnv]; omega)) only [wlk, ↓get_put', ↓reduceIte, seval, f0, f1, f5, f6, d1, d2, rg.l1, Lg.ln, Lg.ix, Lg.l1, Lg.la, Int.toNat_natCast]
     | (with_reducible (first | apply cd_split | apply gd_split)) <;> (intro hc; (try simp only [hcn] at hc); (try simp only [hc]); (try simp only [hcl] at hc); try omega))
   exact lp_next hI (S.L.length - (i + 1)) (by omega) ⟨i + 1, u, rfl, by omega, by simp (disch := first | omega | (simp only [lnv]; omega)) only [wlk, ↓get_put', ↓reduceIte, seval, f0], by simp (disch := first | omega | (simp only [lnv]; omega)) only [wlk, ↓get_put', ↓reduceIte, seval, f1], by simp (disch := first | omega | (simp only [lnv]; omega)) only [wlk, ↓get_put', ↓reduceIte, seval, f5], by simp (disch := first | omega | (simp only [lnv]; omega)) only [wlk, ↓get_put', ↓reduceIte, seval, f6]; rfl, by rw [filt]; exact bu, own, st⟩
end Go.Proofs.Ytclpemggclmgeaa

set_option maxRecDepth 100000
set_option maxHeartbeats 8000000
set_option linter.all false
namespace Go.Proofs.Ytclpemggclmgeaa
open Go Go.Ev
def MidR (Mid : F → H → Prop) : Ev.X → F → H → Prop
 | .normal, t, h => Mid t h
 | _, _, _ => False
theorem midR_n {Mid : F → H → Prop} {t : F} {h : H} : MidR Mid .normal t h = Mid t h := rfl
theorem Ok_midR {P : Program} {nt : Nat} {a b : CC} {t : F} {h : H} {K : Ev.X → F → H → Prop} (Mid : F → H → Prop) (p : Ok P nt a t h (MidR Mid)) (k : ∀ t g, Mid t g → Ok P nt b t g K) : Ok P nt (.seq a b) t h K :=
 Ok.sq (p.mono fun x t g m => by cases x with
   | normal => exact k t g m
   | ret => exact m.elim
   | exit id => exact m.elim)
theorem any_push {L : List Tbl} {p : Tbl → Bool} {j : Nat} (hj : j < L.length) : (L.take (j + 1)).any p = ((L.take j).any p || p (L.getD j default)) := by
 have : L.take (j + 1) = L.take j ++ [L.getD j default] := by rw [List.take_succ]; simp [List.getD, hj]
 rw [this, List.any_append]; simp
theorem hasT_no {L : List Tbl} {g : List Int} {k : Nat} (hk : k < g.length) (h : L.any (fun t => decide (t.id = g.getD k 0)) = false) : hasT L g = false := by
 refine List.all_eq_false.2 ⟨g.getD k 0, ?_, by rw [h]; simp⟩
 simp [List.getD, hk]
theorem hasT_yes {L : List Tbl} {g : List Int} (h : ∀ k, k < g.length → L.any (fun t => decide (t.id = g.getD k 0)) = true) : hasT L g = true := by
 refine List.all_eq_true.2 fun x hx => ?_
 obtain ⟨k, hk, rfl⟩ := List.mem_iff_getElem.1 hx
 have := h k hk
 rwa [List.getD_eq_getElem?_getD, List.getElem?_eq_getElem hk] at this
theorem put_len (L : List Tbl) (t : Tbl) : (putT L t).length = L.length + 1 := (put_perm L t).length_eq
theorem rdo_ok {h : H} {b : B} {v g c : V} {S : Sht} {e : Edt} (a : ShP h b v S) (hl : S.L.length ≤ 100) (m : EdM h g c e) (hgl : e.gone.length ≤ 100) (hcm : e.come.length ≤ 100) (hf : B.val h.floor ≤ B.val h.next) (hcb : ∀ q, isOf c q → q ≠ b) :
   FnOk Try.prog 14 [.p b 0 0 4, .a [g, c, .i .i64 e.log, .i .i64 e.seq]] h fun y h' => y = .i .i64 (doS S e).1 ∧ ∃ v', ShP h' b v' (doS S e).2 ∧ (∀ q, isOf v' q → isOf v q ∨ B.val h.next ≤ B.val q) ∧ Stay (fun q => q = b) h h' := by
 refine fn_go c14 (by intro hb; cases hb) (by simp) (by simp) fun Q hQ => ?_
 simp only [slotsF, Nat.reduceAdd]
 repeat' (first
   | refine St.h ?_
   | simp (disch := first | omega | (simp only [lnv]; omega)) only [wlk, ↓get_put', ↓reduceIte, seval]
   | (with_reducible (first | apply cd_split | apply gd_split)) <;> (intro hc; (try simp only [hcn] at hc); (try simp only [hc]); (try simp only [hcl] at hc); try omega))
 refine AL.own (by simp) hf fun h1 s1 n1 o1 => ?_
 have hf1 := s1.fl hf
 have r1 := o1.row
 repeat' (first
   | refine St.h ?_
   | simp (disch := first | omega | (simp only [lnv]; omega)) only [wlk, ↓get_put', ↓reduceIte, seval, r1.ln]
   | (with_reducible (first | apply cd_split | apply gd_split)) <;> (intro hc; (try simp only [hcn] at hc); (try simp only [hc]); (try simp only [hcl] at hc); try omega))
 refine CL.stay (redit_ok (m.grow s1) (by omega) (by omega) hf1) fun h2 s2 => ?_
 have s12 := s1.trans s2
 have hf2 := s12.fl hf
 have up : ∀ {h'}, Stay nowhere h h' → Stay (fun q => q = b) h h' := fun s => s.mono fun _ _ e => e.elim
 cases he : isEd e with
 | false =>
   have ed : doS S e = (10, S) := by unfold doS; rw [if_pos he]
   repeat' (first
     | refine St.h ?_
     | simp (disch := first | omega | (simp only [lnv]; omega)) only [wlk, ↓get_put', ↓reduceIte, seval]
     | (with_reducible (first | apply cd_split | apply gd_split)) <;> (intro hc; (try simp only [hcn] at hc); (try simp only [hc]); (try simp only [hcl] at hc); try omega))
   subst hQ
   rw [ed]
   exact ⟨rfl, v, a.grow s12, fun q hq => .inl hq, up s12⟩
 | true =>
 have IE := isEd_iff.1 he
 repeat' (first
   | refine St.h ?_
   | simp (disch := first | omega | (simp only [lnv]; omega)) only [wlk, ↓get_put', ↓reduceIte, seval]
   | (with_reducible (first | apply cd_split | apply gd_split)) <;> (intro hc; (try simp only [hcn] at hc); (try simp only [hc]); (try simp only [hcl] at hc); try omega))
 -- what is left
 refine Ok.lp (fun m t g' => ∃ (i : Nat) (u : V), m = S.L.length - i ∧ i ≤ S.L.length ∧ get 0 t = .p b 0 0 4 ∧ get 3 t = .p h.next 0 0 4 ∧ get 5 t = u ∧ get 6 t = .i .i64 (i : Int) ∧ Rt g' u (leftT (S.L.take i) e.gone) ∧ (∀ q, isOf u q → B.val h1.next ≤ B.val q) ∧ Stay nowhere h1 g') S.L.length ?_ ?_
 · simp (disch := first | omega | (simp only [lnv]; omega)) only [wlk, ↓get_put', ↓reduceIte, seval]
   refine ⟨0, .l0, by omega, by omega, ?_⟩
   refine ⟨?_, ?_, ?_, ?_, Gr.nil, ?_, s2⟩
   rotate_right
   · rintro i ⟨_, _, _, _, _, e⟩; cases e
   all_goals first | trivial | rfl
 rintro I hI mm t g1 ⟨i, u, rfl, hi, f0, f3, f5, f6, bu, own, st⟩
 have ag := a.grow (s1.trans st)
 have mg := m.grow (s1.trans st)
 have rg := ag.1.row
 have Lg := ag.2.1
 have rb := (o1.stay st fun e => e).row
 have hfg := st.fl hf1
 by_cases hil : i < S.L.length
 · have d1 : ((i : Int) < (S.L.length : Int)) = True := eq_true (by omega)
   have hlen : (leftT (S.L.take i) e.gone).length ≤ 1000 := by
     have := List.length_filter_le (fun t : Tbl => !goneB e.gone t.id) (S.L.take i)
     rw [List.length_take] at this; show (List.filter _ _).length ≤ _; omega
   have filt : leftT (S.L.take (i + 1)) e.gone = leftT (S.L.take i) e.gone ++ _ := take_push (p := fun t => !goneB e.gone t.id) hil
   repeat' (first
     | refine St.h ?_
     | simp (disch := first | omega | (simp only [lnv]; omega)) only [wlk, ↓get_put', ↓reduceIte, seval, f0, f3, f5, f6, d1, rg.l1, rb.l1, Lg.ln, Lg.ix, Lg.l0, Int.toNat_natCast]
     | (with_reducible (first | apply cd_split | apply gd_split)) <;> (intro hc; (try simp only [hcn] at hc); (try simp only [hc]); (try simp only [hcl] at hc); try omega))
   refine CL.pure (rgone_ok mg.1 (by omega)) ?_
   cases hb : goneB e.gone (S.L.getD i default).id with
   | true =>
     rw [hb, if_neg (by simp), List.append_nil] at filt
     repeat' (first
       | refine St.h ?_
       | simp (disch := first | omega | (simp only [lnv]; omega)) only [wlk, ↓get_put', ↓reduceIte, seval, f0, f3, f5, f6]
       | (with_reducible (first | apply cd_split | apply gd_split)) <;> (intro hc; (try simp only [hcn] at hc); (try simp only [hc]); (try simp only [hcl] at hc); try omega))
     exact lp_next hI (S.L.length - (i + 1)) (by omega) ⟨i + 1, u, rfl, by omega, by simp (disch := first | omega | (simp only [lnv]; omega)) only [wlk, ↓get_put', ↓reduceIte, seval, f0], by simp (disch := first | omega | (simp only [lnv]; omega)) only [wlk, ↓get_put', ↓reduceIte, seval, f3], by simp (disch := first | omega | (simp only [lnv]; omega)) only [wlk, ↓get_put', ↓reduceIte, seval, f5], by simp (disch := first | omega | (simp only [lnv]; omega)) only [wlk, ↓get_put', ↓reduceIte, seval, f6]; rfl, by rw [filt]; exact bu, own, st⟩
   | false =>
     rw [hb, if_pos (by simp)] at filt
     repeat' (first
       | refine St.h ?_
       | simp (disch := first | omega | (simp only [lnv]; omega)) only [wlk, ↓get_put', ↓reduceIte, seval, f0, f3, f5, f6, rg.l1, Lg.ix, Lg.la, Int.toNat_natCast]
       | (with_reducible (first | apply cd_split | apply gd_split)) <;> (intro hc; (try simp only [hcn] at hc); (try simp only [hc]); (try simp only [hcl] at hc); try omega))
     refine AL.own (by simp) hfg fun g3 t3 _ o3 => ?_
     repeat' (first
       | refine St.h ?_
       | simp (disch := first | omega | (simp only [lnv]; omega)) only [wlk, ↓get_put', ↓reduceIte, seval, f0, f3, f5, f6]
       | (with_reducible (first | apply cd_split | apply gd_split)) <;> (intro hc; (try simp only [hcn] at hc); (try simp only [hc]); (try simp only [hcl] at hc); try omega))
     refine push_t (x := S.L.getD i default) (bu.grow t3) o3 (by omega) (t3.fl hfg) fun u4 g4 b4 t4 own4 => ?_
     repeat' (first
       | refine St.h ?_
       | simp (disch := first | omega | (simp only [lnv]; omega)) only [wlk, ↓get_put', ↓reduceIte, seval, f0, f3, f5, f6]
       | (with_reducible (first | apply cd_split | apply gd_split)) <;> (intro hc; (try simp only [hcn] at hc); (try simp only [hc]); (try simp only [hcl] at hc); try omega))
     have st3 := st.trans t3
     refine lp_next hI (S.L.length - (i + 1)) (by omega) ⟨i + 1, u4, rfl, by omega, by simp (disch := first | omega | (simp only [lnv]; omega)) only [wlk, ↓get_put', ↓reduceIte, seval, f0], by simp (disch := first | omega | (simp only [lnv]; omega)) only [wlk, ↓get_put', ↓reduceIte, seval, f3], by simp (disch := first | omega | (simp only [lnv]; omega)) only [wlk, ↓get_put', ↓reduceIte, seval], by simp (disch := first | omega | (simp only [lnv]; omega)) only [wlk, ↓get_put', ↓reduceIte, seval, f6]; rfl, by rw [filt]; exact b4, fun q hq => ?_, st3.past' t4 fun q hq => own q hq⟩
     rcases own4 q hq with h5 | h5
     · exact own q h5
     · exact Nat.le_trans st3.next h5
 obtain rfl : i = S.L.length := by omega
 rw [List.take_length] at bu
 have d1 : ((S.L.length : Int) < (S.L.length : Int)) = False := eq_false (by omega)
 repeat' (first
   | refine St.h ?_
   | simp (disch := first | omega | (simp only [lnv]; omega)) only [wlk, ↓get_put', ↓reduceIte, seval, f0, f3, f5, f6, d1, rg.l1, Lg.ln]
   | (with_reducible (first | apply cd_split | apply gd_split)) <;> (intro hc; (try simp only [hcn] at hc); (try simp only [hc]); (try simp only [hcl] at hc); try omega))
 -- whether all that go are there
 refine Ok.lp (fun m t g' => ∃ k : Nat, m = e.gone.length - k ∧ k ≤ e.gone.length ∧ get 0 t = .p b 0 0 4 ∧ get 3 t = .p h.next 0 0 4 ∧ get 5 t = u ∧ g1 = g' ∧ get 7 t = .i .i64 (k : Int) ∧ (∀ x, x < k → S.L.any (fun t => decide (t.id = e.gone.getD x 0)) = true)) e.gone.length ?_ ?_
 · simp (disch := first | omega | (simp only [lnv]; omega)) only [wlk, ↓get_put', ↓reduceIte, seval, f0, f3, f5]
   refine ⟨0, by omega, by omega, ?_⟩
   refine ⟨?_, ?_, ?_, ?_, ?_, fun x hx => by omega⟩
   all_goals first | trivial | rfl
 rintro J hJ mm t _ ⟨k, rfl, hk, f0, f3, f5, rfl, f7, hall⟩
 by_cases hkl : k < e.gone.length
 · have d2 : ((k : Int) < (e.gone.length : Int)) = True := eq_true (by omega)
   repeat' (first
     | refine St.h ?_
     | simp (disch := first | omega | (simp only [lnv]; omega)) only [wlk, ↓get_put', ↓reduceIte, seval, f0, f3, f5, f7, d2, rb.l1, mg.1.ln]
     | (with_reducible (first | apply cd_split | apply gd_split)) <;> (intro hc; (try simp only [hcn] at hc); (try simp only [hc]); (try simp only [hcl] at hc); try omega))
   refine Ok.lp (fun m t g' => ∃ j : Nat, m = S.L.length - j ∧ j ≤ S.L.length ∧ get 0 t = .p b 0 0 4 ∧ get 3 t = .p h.next 0 0 4 ∧ get 5 t = u ∧ g1 = g' ∧ get 7 t = .i .i64 (k : Int) ∧ get 8 t = .b ((S.L.take j).any fun t => decide (t.id = e.gone.getD k 0)) ∧ get 9 t = .i .i64 (j : Int)) S.L.length ?_ ?_
   · simp (disch := first | omega | (simp only [lnv]; omega)) only [wlk, ↓get_put', ↓reduceIte, seval, f0, f3, f5, f7]
     refine ⟨0, by omega, by omega, ?_⟩
     refine ⟨?_, ?_, ?_, ?_, ?_, ?_⟩
     all_goals first | trivial | rfl
   rintro J2 hJ2 mm t _ ⟨j, rfl, hj, f0, f3, f5, rfl, f7, f8, f9⟩
   by_cases hjl : j < S.L.length
   · have d3 : ((j : Int) < (S.L.length : Int)) = True := eq_true (by omega)
     have ap := any_push (p := fun t => decide (t.id = e.gone.getD k 0)) hjl
     cases h8 : (S.L.take j).any fun t => decide (t.id = e.gone.getD k 0) with
     | true =>
       rw [h8] at f8 ap
       repeat' (first
         | refine St.h ?_
         | simp (disch := first | omega | (simp only [lnv]; omega)) only [wlk, ↓get_put', ↓reduceIte, seval, f0, f3, f5, f7, f8, f9, d3, rg.l1, Lg.ln]
         | (with_reducible (first | apply cd_split | apply gd_split)) <;> (intro hc; (try simp only [hcn] at hc); (try simp only [hc]); (try simp only [hcl] at hc); try omega))
       exact lp_next hJ2 (S.L.length - (j + 1)) (by omega) ⟨j + 1, rfl, by omega, by simp (disch := first | omega | (simp only [lnv]; omega)) only [wlk, ↓get_put', ↓reduceIte, seval, f0], by simp (disch := first | omega | (simp only [lnv]; omega)) only [wlk, ↓get_put', ↓reduceIte, seval, f3], by simp (disch := first | omega | (simp only [lnv]; omega)) only [wlk, ↓get_put', ↓reduceIte, seval, f5], rfl, by simp (disch := first | omega | (simp only [lnv]; omega)) only [wlk, ↓get_put', ↓reduceIte, seval, f7], by rw [ap]; simp (disch := first | omega | (simp only [lnv]; omega)) only [wlk, ↓get_put', ↓reduceIte, seval]; rfl, by simp (disch := first | omega | (simp only [lnv]; omega)) only [wlk, ↓get_put', ↓reduceIte, seval, f9]; rfl⟩
     | false =>
       rw [h8, Bool.false_or] at ap
       rw [h8] at f8
       repeat' (first
         | refine St.h ?_
         | simp (disch := first | omega | (simp only [lnv]; omega)) only [wlk, ↓get_put', ↓reduceIte, seval, f0, f3, f5, f7, f8, f9, d3, rg.l1, rb.l1, Lg.ln, Lg.ix, Lg.l0, mg.1.ix, mg.1.ld, Int.toNat_natCast]
         | (with_reducible (first | apply cd_split | apply gd_split)) <;> (intro hc; (try simp only [hcn] at hc); (try simp only [hc]); (try simp only [hcl] at hc); try omega))
       exact lp_next hJ2 (S.L.length - (j + 1)) (by omega) ⟨j + 1, rfl, by omega, by simp (disch := first | omega | (simp only [lnv]; omega)) only [wlk, ↓get_put', ↓reduceIte, seval, f0], by simp (disch := first | omega | (simp only [lnv]; omega)) only [wlk, ↓get_put', ↓reduceIte, seval, f3], by simp (disch := first | omega | (simp only [lnv]; omega)) only [wlk, ↓get_put', ↓reduceIte, seval, f5], rfl, by simp (disch := first | omega | (simp only [lnv]; omega)) only [wlk, ↓get_put', ↓reduceIte, seval, f7], by rw [ap]; simp (disch := first | omega | (simp only [lnv]; omega)) only [wlk, ↓get_put', ↓reduceIte, seval], by simp (disch := first | omega | (simp only [lnv]; omega)) only [wlk, ↓get_put', ↓reduceIte, seval, f9]; rfl⟩
   obtain rfl : j = S.L.length := by omega
   rw [List.take_length] at f8
   have d3 : ((S.L.length : Int) < (S.L.length : Int)) = False := eq_false (by omega)
   cases h8 : S.L.any fun t => decide (t.id = e.gone.getD k 0) with
   | true =>
     rw [h8] at f8
     repeat' (first
       | refine St.h ?_
       | simp (disch := first | omega | (simp only [lnv]; omega)) only [wlk, ↓get_put', ↓reduceIte, seval, f0, f3, f5, f7, f8, f9, d3, rg.l1, Lg.ln]
       | (with_reducible (first | apply cd_split | apply gd_split)) <;> (intro hc; (try simp only [hcn] at hc); (try simp only [hc]); (try simp only [hcl] at hc); try omega))
     refine lp_next hJ (e.gone.length - (k + 1)) (by omega) ⟨k + 1, rfl, by omega, by simp (disch := first | omega | (simp only [lnv]; omega)) only [wlk, ↓get_put', ↓reduceIte, seval, f0], by simp (disch := first | omega | (simp only [lnv]; omega)) only [wlk, ↓get_put', ↓reduceIte, seval, f3], by simp (disch := first | omega | (simp only [lnv]; omega)) only [wlk, ↓get_put', ↓reduceIte, seval, f5], rfl, by simp (disch := first | omega | (simp only [lnv]; omega)) only [wlk, ↓get_put', ↓reduceIte, seval, f7]; rfl, fun x hx => ?_⟩
     by_cases e : x = k
     · rw [e]; exact h8
     · exact hall x (by omega)
   | false =>
     rw [h8] at f8
     have ed : doS S e = (18, S) := by unfold doS; rw [if_neg (by rw [he]; simp), if_pos (hasT_no hkl h8)]
     repeat' (first
       | refine St.h ?_
       | simp (disch := first | omega | (simp only [lnv]; omega)) only [wlk, ↓get_put', ↓reduceIte, seval, f0, f3, f5, f7, f8, f9, d3, rg.l1, Lg.ln]
       | (with_reducible (first | apply cd_split | apply gd_split)) <;> (intro hc; (try simp only [hcn] at hc); (try simp only [hc]); (try simp only [hcl] at hc); try omega))
     subst hQ
     rw [ed]
     exact ⟨rfl, v, ag, fun q hq => .inl hq, up (s1.trans st)⟩
 obtain rfl : k = e.gone.length := by omega
 have hh := hasT_yes hall
 have d2 : ((e.gone.length : Int) < (e.gone.length : Int)) = False := eq_false (by omega)
 have hp : pastT S e = true ↔ ((0 < e.come.length ∧ (e.come.getD 0 default).id < S.next) ∨ (0 < e.log ∧ e.log < S.log) ∨ (0 < e.seq ∧ e.seq < S.seq)) := by
   unfold pastT; rw [Bool.or_eq_true, Bool.or_eq_true, Bool.and_eq_true, Bool.and_eq_true, Bool.and_eq_true]; simp only [decide_eq_true_eq]; omega
 have k0 : ((0 : Int) < (e.come.length : Int)) = (0 < e.come.length) := propext (by omega)
 cases hpa : pastT S e with
 | true =>
   have ed : doS S e = (16, S) := by unfold doS; rw [if_neg (by rw [he]; simp), if_neg (by rw [hh]; simp), if_pos hpa]
   have hp := hp.1 hpa
   repeat' (first
     | refine St.h ?_
     | simp (disch := first | omega | (simp only [lnv]; omega)) only [wlk, ↓get_put', ↓reduceIte, seval, f0, f3, f5, f7, d2, rb.l1, rg.l1, mg.1.ln, mg.2.ln, k0, mg.2.ix0, mg.2.l00]
     | (with_reducible (first | apply cd_split | apply gd_split)) <;> (intro hc; (try simp only [hcn] at hc); (try simp only [hc]); (try simp only [hcl] at hc); try omega))
   all_goals first
     | (exfalso; omega)
     | (subst hQ
        rw [ed]
        exact ⟨rfl, v, ag, fun q hq => .inl hq, up (s1.trans st)⟩)
 | false =>
 have hp : ¬ ((0 < e.come.length ∧ (e.come.getD 0 default).id < S.next) ∨ (0 < e.log ∧ e.log < S.log) ∨ (0 < e.seq ∧ e.seq < S.seq)) := fun h => by rw [hp.2 h] at hpa; cases hpa
 obtain ⟨Mid, hMid⟩ : ∃ M : F → H → Prop, M = fun t g' => get 0 t = .p b 0 0 4 ∧ get 3 t = .p h.next 0 0 4 ∧ get 5 t = u ∧ g1 = g' := ⟨_, rfl⟩
 repeat' (first
   | ((with_reducible refine (show Ok Try.prog 232 s14_72 _ _ _ from ?_)); refine Ok_midR Mid ?_ ?_)
   | refine St.h ?_
   | simp (disch := first | omega | (simp only [lnv]; omega)) only [wlk, ↓get_put', ↓reduceIte, seval, f0, f3, f5, f7, d2, rb.l1, rg.l1, mg.1.ln, mg.2.ln, k0, mg.2.ix0, mg.2.l00, midR_n]
   | (with_reducible (first | apply cd_split | apply gd_split)) <;> (intro hc; (try simp only [hcn] at hc); (try simp only [hc]); (try simp only [hcl] at hc); try omega))
 rotate_right
 all_goals try (first | (exfalso; omega) | (rw [hMid]; exact ⟨by simp (disch := first | omega | (simp only [lnv]; omega)) only [wlk, ↓get_put', ↓reduceIte, seval, f0], by simp (disch := first | omega | (simp only [lnv]; omega)) only [wlk, ↓get_put', ↓reduceIte, seval, f3], by simp (disch := first | omega | (simp only [lnv]; omega)) only [wlk, ↓get_put', ↓reduceIte, seval, f5], rfl⟩))
 clear f0 f3 f5 f7
 rw [hMid]
 rintro t _ ⟨f0, f3, f5, rfl⟩
 have hll : (leftT S.L e.gone).length ≤ 100 := Nat.le_trans (List.length_filter_le _ _) hl
 have e0 : doS S e = match comeT (leftT S.L e.gone) e.come with | none => (16, S) | some M => if 40 < M.length then (25, S) else (0, newS S e M) := by unfold doS; rw [if_neg (by rw [he]; simp), if_neg (by rw [hh]; simp), if_neg (by rw [hpa]; simp)] <;> cases comeT (leftT S.L e.gone) e.come <;> rfl
 repeat' (first
   | refine St.h ?_
   | simp (disch := first | omega | (simp only [lnv]; omega)) only [wlk, ↓get_put', ↓reduceIte, seval, f0, f3, f5]
   | (with_reducible (first | apply cd_split | apply gd_split)) <;> (intro hc; (try simp only [hcn] at hc); (try simp only [hc]); (try simp only [hcl] at hc); try omega))
 -- one after the other put in
 refine Ok.lp (fun m t g' => ∃ (k : Nat) (u : V) (A : List Tbl), m = e.come.length - k ∧ k ≤ e.come.length ∧ get 0 t = .p b 0 0 4 ∧ get 3 t = .p h.next 0 0 4 ∧ get 5 t = u ∧ get 10 t = .i .i64 (k : Int) ∧ Rt g' u A ∧ A.length ≤ 100 + k ∧ (∀ q, isOf u q → B.val h1.next ≤ B.val q) ∧ comeT (leftT S.L e.gone) e.come = comeT A (e.come.drop k) ∧ Stay nowhere h1 g') e.come.length ?_ ?_
 · simp (disch := first | omega | (simp only [lnv]; omega)) only [wlk, ↓get_put', ↓reduceIte, seval, f0, f3, f5]
   refine ⟨0, u, leftT S.L e.gone, by omega, by omega, ?_⟩
   refine ⟨?_, ?_, ?_, ?_, bu, by omega, own, by rw [List.drop_zero], st⟩
   all_goals first | trivial | rfl
 clear f0 f3 f5 hMid rg rb ag mg Lg hfg
 rintro I4 hI4 mm t g2 ⟨k, u, A, rfl, hk, f0, f3, f5, f10, bA, hA, own, eq, st⟩
 have ag := a.grow (s1.trans st)
 have mg := m.grow (s1.trans st)
 have rg := ag.1.row
 have rb := (o1.stay st fun e => e).row
 have hfg := st.fl hf1
 have TA := bA.tbs
 by_cases hkl : k < e.come.length
 · have d2 : ((k : Int) < (e.come.length : Int)) = True := eq_true (by omega)
   have hdrop : e.come.drop k = e.come.getD k default :: e.come.drop (k + 1) := by
     rw [List.drop_eq_getElem_cons hkl, List.getD_eq_getElem?_getD, List.getElem?_eq_getElem hkl]; rfl
   rw [hdrop] at eq
   have eq : comeT (leftT S.L e.gone) e.come = if A.any (fun u => meetT u (e.come.getD k default)) then none else comeT (putT A (e.come.getD k default)) (e.come.drop (k + 1)) := eq
   repeat' (first
     | refine St.h ?_
     | simp (disch := first | omega | (simp only [lnv]; omega)) only [wlk, ↓get_put', ↓reduceIte, seval, f0, f3, f5, f10, d2, rb.l1, mg.2.ln]
     | (with_reducible (first | apply cd_split | apply gd_split)) <;> (intro hc; (try simp only [hcn] at hc); (try simp only [hc]); (try simp only [hcl] at hc); try omega))
   refine Ok.lp (fun m t g' => ∃ j : Nat, m = A.length - j ∧ j ≤ A.length ∧ get 0 t = .p b 0 0 4 ∧ get 3 t = .p h.next 0 0 4 ∧ get 5 t = u ∧ g2 = g' ∧ get 10 t = .i .i64 (k : Int) ∧ get 11 t = .i .i64 (j : Int) ∧ ∀ p, p < j → meetT (A.getD p default) (e.come.getD k default) = false) A.length ?_ ?_
   · simp (disch := first | omega | (simp only [lnv]; omega)) only [wlk, ↓get_put', ↓reduceIte, seval, f0, f3, f5, f10]
     refine ⟨0, by omega, by omega, ?_⟩
     refine ⟨?_, ?_, ?_, ?_, ?_, ?_, fun x hx => by omega⟩
     all_goals first | trivial | rfl
   rintro J2 hJ2 mm t _ ⟨j, rfl, hj, f0, f3, f5, rfl, f10, f11, hno⟩
   by_cases hjl : j < A.length
   · have d3 : ((j : Int) < (A.length : Int)) = True := eq_true (by omega)
     have l3 := le_b (a := (A.getD j default).fst) (b := (e.come.getD k default).lst)
     have l4 := le_b (a := (e.come.getD k default).fst) (b := (A.getD j default).lst)
     have stop : meetT (A.getD j default) (e.come.getD k default) = true → doS S e = (16, S) := fun hm => by
       rw [if_pos (List.any_eq_true.2 ⟨_, getD_in hjl, hm⟩)] at eq
       rw [eq] at e0; exact e0
     have go : meetT (A.getD j default) (e.come.getD k default) = false → ∀ p, p < j + 1 → meetT (A.getD p default) (e.come.getD k default) = false := fun hm p hp => by
       by_cases e : p = j
       · rw [e]; exact hm
       · exact hno p (by omega)
     have mt : meetT (A.getD j default) (e.come.getD k default) = true ↔ ((A.getD j default).tier = 1 ∧ (e.come.getD k default).tier = 1 ∧ Op.bytesLess (e.come.getD k default).lst (A.getD j default).fst = false ∧ Op.bytesLess (A.getD j default).lst (e.come.getD k default).fst = false) := by unfold meetT; exact decide_eq_true_iff
     cases h3 : Op.bytesLess (e.come.getD k default).lst (A.getD j default).fst <;> cases h4 : Op.bytesLess (A.getD j default).lst (e.come.getD k default).fst
     all_goals
       rw [h3] at l3
       rw [h4] at l4
       simp only [Bool.not_false, Bool.not_true] at l3 l4
       repeat' (first
         | refine St.h ?_
         | simp (disch := first | omega | (simp only [lnv]; omega)) only [wlk, ↓get_put', ↓reduceIte, seval, f0, f3, f5, f10, f11, d3, rb.l1, mg.2.ln, TA.ln, TA.ix, TA.l1, TA.l2, TA.l3, mg.2.ix, mg.2.l1, mg.2.l2, mg.2.l3, l3, l4, Int.toNat_natCast]
         | (with_reducible (first | apply cd_split | apply gd_split)) <;> (intro hc; (try simp only [hcn] at hc); (try simp only [hc]); (try simp only [hcl] at hc); try omega))
       all_goals first
         | (subst hQ
            rw [stop (mt.2 ⟨by assumption, by assumption, h3, h4⟩)]
            exact ⟨rfl, v, ag, fun q hq => .inl hq, up (s1.trans st)⟩)
         | exact lp_next hJ2 (A.length - (j + 1)) (by omega) ⟨j + 1, rfl, by omega, by simp (disch := first | omega | (simp only [lnv]; omega)) only [wlk, ↓get_put', ↓reduceIte, seval, f0], by simp (disch := first | omega | (simp only [lnv]; omega)) only [wlk, ↓get_put', ↓reduceIte, seval, f3], by simp (disch := first | omega | (simp only [lnv]; omega)) only [wlk, ↓get_put', ↓reduceIte, seval, f5], rfl, by simp (disch := first | omega | (simp only [lnv]; omega)) only [wlk, ↓get_put', ↓reduceIte, seval, f10], by simp (disch := first | omega | (simp only [lnv]; omega)) only [wlk, ↓get_put', ↓reduceIte, seval, f11]; rfl, go (by
             rw [← Bool.not_eq_true, mt]
             rintro ⟨x1, x2, x3, x4⟩
             first | contradiction | (rw [h3] at x3; cases x3; done) | (rw [h4] at x4; cases x4; done))⟩
   obtain rfl : j = A.length := by omega
   have d3 : ((A.length : Int) < (A.length : Int)) = False := eq_false (by omega)
   rw [if_neg (by
     rw [Bool.not_eq_true]
     refine List.any_eq_false.2 fun u hu => ?_
     obtain ⟨p, hp, rfl⟩ := in_getD hu
     rw [hno p hp]; simp)] at eq
   repeat' (first
     | refine St.h ?_
     | simp (disch := first | omega | (simp only [lnv]; omega)) only [wlk, ↓get_put', ↓reduceIte, seval, f0, f3, f5, f10, f11, d3, rb.l1, TA.ln, mg.2.ix, mg.2.la, Int.toNat_natCast]
     | (with_reducible (first | apply cd_split | apply gd_split)) <;> (intro hc; (try simp only [hcn] at hc); (try simp only [hc]); (try simp only [hcl] at hc); try omega))
   refine CL.mk (rput_ok TA (by omega) hfg) ?_
   rintro u4 g4 ⟨b4, own4, s4⟩
   repeat' (first
     | refine St.h ?_
     | simp (disch := first | omega | (simp only [lnv]; omega)) only [wlk, ↓get_put', ↓reduceIte, seval, f0, f3, f5, f10, f11]
     | (with_reducible (first | apply cd_split | apply gd_split)) <;> (intro hc; (try simp only [hcn] at hc); (try simp only [hc]); (try simp only [hcl] at hc); try omega))
   exact lp_next hI4 (e.come.length - (k + 1)) (by omega) ⟨k + 1, u4, _, rfl, by omega, by simp (disch := first | omega | (simp only [lnv]; omega)) only [wlk, ↓get_put', ↓reduceIte, seval, f0], by simp (disch := first | omega | (simp only [lnv]; omega)) only [wlk, ↓get_put', ↓reduceIte, seval, f3], by simp (disch := first | omega | (simp only [lnv]; omega)) only [wlk, ↓get_put', ↓reduceIte, seval], by simp (disch := first | omega | (simp only [lnv]; omega)) only [wlk, ↓get_put', ↓reduceIte, seval, f10]; rfl, b4, by rw [put_len]; omega, fun q hq => Nat.le_trans st.next (own4 q hq), eq, st.trans s4⟩
 obtain rfl : k = e.come.length := by omega
 rw [List.drop_length] at eq
 have eq : comeT (leftT S.L e.gone) e.come = some A := eq
 rw [eq] at e0
 have d2 : ((e.come.length : Int) < (e.come.length : Int)) = False := eq_false (by omega)
 have s1g := s1.trans st
 by_cases h40 : 40 < A.length
 · have d40 : ((40 : Int) < (A.length : Int)) = True := eq_true (by omega)
   have ed : doS S e = (25, S) := e0.trans (if_pos h40)
   repeat' (first
     | refine St.h ?_
     | simp (disch := first | omega | (simp only [lnv]; omega)) only [wlk, ↓get_put', ↓reduceIte, seval, f0, f3, f5, f10, d2, rb.l1, mg.2.ln, TA.ln, d40]
     | (with_reducible (first | apply cd_split | apply gd_split)) <;> (intro hc; (try simp only [hcn] at hc); (try simp only [hc]); (try simp only [hcl] at hc); try omega))
   subst hQ
   rw [ed]
   exact ⟨rfl, v, ag, fun q hq => .inl hq, up s1g⟩
 have d40 : ((40 : Int) < (A.length : Int)) = False := eq_false (by omega)
 have ed : doS S e = (0, newS S e A) := e0.trans (if_neg h40)
 repeat' (first
   | refine St.h ?_
   | simp (disch := first | omega | (simp only [lnv]; omega)) only [wlk, ↓get_put', ↓reduceIte, seval, f0, f3, f5, f10, d2, rb.l1, mg.2.ln, TA.ln, d40]
   | (with_reducible (first | apply cd_split | apply gd_split)) <;> (intro hc; (try simp only [hcn] at hc); (try simp only [hc]); (try simp only [hcl] at hc); try omega))
 refine ST.own ag.1 (gr_cells bA).1 (gr_cells bA).2 (by omega) (by omega) fun h7 o7 s7 => ?_
 have o7 : Ev.Own h7 b [u, .i .i64 S.log, .i .i64 S.seq, .i .i64 S.next] := o7
 have hne : h.next ≠ b := fun e => by have := a.lt.1; rw [← e] at this; omega
 have ob7 := (o1.stay st fun e => e).stay s7 fun e => hne e
 have q7 := ob7.row
 have w7 := o7.row
 repeat' (first
   | with_reducible refine flStop ?_
   | refine St.h ?_
   | simp (disch := first | omega | (simp only [lnv]; omega)) only [wlk, ↓get_put', ↓reduceIte, seval, f0, f3, f5, f10, w7.l1, q7.l1]
   | (with_reducible (first | apply cd_split | apply gd_split)) <;> (intro hc; (try simp only [hcn] at hc); (try simp only [hc]); (try simp only [hcl] at hc); try omega))
 refine Ok.float2 hmix (L1 := [.mk .none (.some (slOf 195)) .false (.mk (doMove (tm 0))), .mk .none (.some (slOf 196)) .false (.mk (doMove (tm 0))), .mk .none (.some (slOf 197)) .false (.mk (doMove (tm 0))), .mk .none (.some (slOf 198)) .false (.mk (doNilCheck (tm 197))), .mk .none (.some (slOf 199)) .false (.mk (doFieldAddr 1 (tm 198))), .mk .none (.some (slOf 200)) .false (.mk (doLoad (tm 199))), .mk .none (.some (slOf 201)) .false (.mk (doFieldAddr 2 (tm 3))), .mk .none (.some (slOf 202)) .false (.mk (doLoad (tm 201))), .mk .none (.some (slOf 203)) .false (.mk (doMax (tm 200) (tm 202))), .mk .none (.some (slOf 204)) .false (.mk (doMove (tm 0))), .mk .none (.some (slOf 205)) .false (.mk (doNilCheck (tm 204))), .mk .none (.some (slOf 206)) .false (.mk (doFieldAddr 2 (tm 205))), .mk .none (.some (slOf 207)) .false (.mk (doLoad (tm 206))), .mk .none (.some (slOf 208)) .false (.mk (doFieldAddr 3 (tm 3)))]) (L2 := [.mk .none (.some (slOf 210)) .false (.mk (doMax (tm 207) (tm 209))), .mk .none (.some (slOf 211)) .false (.mk (doNilCheck (tm 195))), .mk .none (.some (slOf 212)) .false (.mk (doFieldAddr 1 (tm 211)))]) (L3 := [.mk .none (.some (slOf 213)) .true (.mk (doNilCheck (tm 196))), .mk .none (.some (slOf 214)) .false (.mk (doFieldAddr 2 (tm 213)))]) (n := 209) (rl := doLoad (tm 208)) (rA := doStore 1 (tm 212) (tm 203)) (rB := doStore 1 (tm 214) (tm 210)) rfl rfl rfl rfl (by decide) ?_
 repeat' (first
   | refine St.h ?_
   | simp (disch := first | omega | (simp only [lnv]; omega)) only [wlk, ↓get_put', ↓reduceIte, seval, f0, f3, f5, f10, w7.l1, q7.l1]
   | (with_reducible (first | apply cd_split | apply gd_split)) <;> (intro hc; (try simp only [hcn] at hc); (try simp only [hc]); (try simp only [hcl] at hc); try omega))
 refine ⟨.i .i64 e.seq, ?_⟩
 repeat' (first
   | refine St.h ?_
   | simp (disch := first | omega | (simp only [lnv]; omega)) only [wlk, ↓get_put', ↓reduceIte, seval, f0, f3, f5, f10, w7.l1, q7.l1]
   | (with_reducible (first | apply cd_split | apply gd_split)) <;> (intro hc; (try simp only [hcn] at hc); (try simp only [hc]); (try simp only [hcl] at hc); try omega))
 refine ⟨trivial, ?_⟩
 refine ST.own o7 rfl rfl (by omega) (by omega) fun h8 o8 s8 => ?_
 have o8 : Ev.Own h8 b [u, .i .i64 (max S.log e.log), .i .i64 S.seq, .i .i64 S.next] := o8
 have ob8 := ob7.stay s8 fun e => hne e
 have q8 := ob8.row
 have w8 := o8.row
 repeat' (first
   | refine St.h ?_
   | simp (disch := first | omega | (simp only [lnv]; omega)) only [wlk, ↓get_put', ↓reduceIte, seval, f0, f3, f5, f10, w8.l1, q8.l1]
   | (with_reducible (first | apply cd_split | apply gd_split)) <;> (intro hc; (try simp only [hcn] at hc); (try simp only [hc]); (try simp only [hcl] at hc); try omega))
 refine ⟨trivial, ?_⟩
 repeat' (first
   | refine St.h ?_
   | simp (disch := first | omega | (simp only [lnv]; omega)) only [wlk, ↓get_put', ↓reduceIte, seval, f0, f3, f5, f10, w8.l1, q8.l1]
   | (with_reducible (first | apply cd_split | apply gd_split)) <;> (intro hc; (try simp only [hcn] at hc); (try simp only [hc]); (try simp only [hcl] at hc); try omega))
 refine ST.own o8 rfl rfl (by omega) (by omega) fun h9 o9 s9 => ?_
 have o9 : Ev.Own h9 b [u, .i .i64 (max S.log e.log), .i .i64 (max S.seq e.seq), .i .i64 S.next] := o9
 have q9 := (ob8.stay s9 fun e => hne e).row
 have w9 := o9.row
 have s69 : Stay (fun q => q = b) h h9 := (((up s1g).trans s7).trans s8).trans s9
 have nb : ∀ q, isOf u q → q ≠ b := fun q hq e => by have h1 := own q hq; have := s1.next; have := a.lt.1; rw [e] at h1; omega
 have b9 : Rt h9 u A := ((bA.stay s7 nb).stay s8 nb).stay s9 nb
 have ow : ∀ q, isOf u q → isOf v q ∨ B.val h.next ≤ B.val q := fun q hq => .inr (Nat.le_trans s1.next (own q hq))
 have c9 : Tbs h9 c e.come := Ss.stay m.2 s69 hcb
 by_cases h0 : 0 < e.come.length
 · have d1 : ((0 : Int) < (e.come.length : Int)) = True := eq_true (by omega)
   have ei : ((e.come.length : Int) - 1).toNat = e.come.length - 1 := by omega
   have hi : e.come.length - 1 < e.come.length := by omega
   obtain ⟨i1, i2, _⟩ := isTb_iff.1 (IE.tb _ (getD_in hi))
   repeat' (first
     | refine St.h ?_
     | simp (disch := first | omega | (simp only [lnv]; omega)) only [wlk, ↓get_put', ↓reduceIte, seval, f0, f3, f5, f10, w9.l1, q9.l1, c9.ln, d1, ei, c9.ix, c9.l0]
     | (with_reducible (first | apply cd_split | apply gd_split)) <;> (intro hc; (try simp only [hcn] at hc); (try simp only [hc]); (try simp only [hcl] at hc); try omega))
   refine ST.own o9 rfl rfl (by omega) (by omega) fun ha oa sa => ?_
   have oa : Ev.Own ha b [u, .i .i64 (max S.log e.log), .i .i64 (max S.seq e.seq), .i .i64 ((e.come.getD (e.come.length - 1) default).id + 1)] := oa
   repeat' (first
     | refine St.h ?_
     | simp (disch := first | omega | (simp only [lnv]; omega)) only [wlk, ↓get_put', ↓reduceIte, seval]
     | (with_reducible (first | apply cd_split | apply gd_split)) <;> (intro hc; (try simp only [hcn] at hc); (try simp only [hc]); (try simp only [hcl] at hc); try omega))
   subst hQ
   rw [ed]
   refine ⟨rfl, u, ⟨?_, Gr.ss (b9.stay sa nb), nb⟩, ow, s69.trans sa⟩
   show Ev.Own ha b [u, .i .i64 (max S.log e.log), .i .i64 (max S.seq e.seq), .i .i64 (if 0 < e.come.length then (e.come.getD (e.come.length - 1) default).id + 1 else S.next)]
   rw [if_pos h0]; exact oa
 · have d1 : ((0 : Int) < (e.come.length : Int)) = False := eq_false (by omega)
   repeat' (first
     | refine St.h ?_
     | simp (disch := first | omega | (simp only [lnv]; omega)) only [wlk, ↓get_put', ↓reduceIte, seval, f0, f3, f5, f10, w9.l1, q9.l1, c9.ln, d1]
     | (with_reducible (first | apply cd_split | apply gd_split)) <;> (intro hc; (try simp only [hcn] at hc); (try simp only [hc]); (try simp only [hcl] at hc); try omega))
   subst hQ
   rw [ed]
   refine ⟨rfl, u, ⟨?_, b9.tbs, nb⟩, ow, s69⟩
   show Ev.Own h9 b [u, .i .i64 (max S.log e.log), .i .i64 (max S.seq e.seq), .i .i64 (if 0 < e.come.length then (e.come.getD (e.come.length - 1) default).id + 1 else S.next)]
   rw [if_neg h0]; exact o9
end Go.Proofs.Ytclpemggclmgeaa

set_option maxRecDepth 100000
set_option maxHeartbeats 8000000
set_option linter.all false
namespace Go.Proofs.Ytclpemggclmgeaa
open Go Go.Ev
theorem CL.mkV {P : Program} {f : FuncId} {vs : List V} {h : H} {m : Nat} {l : List CO} {t : F} {K : F → H → Prop} {Q : V → H → Prop} (a : FnOk P f vs (reFloor h) Q) (k : ∀ v h', Q v h' → DO P l (put m v t) (unFloor h h') K) : CL P f vs (reFloor h) (.u m l t h K) := ⟨_, a, fun v h' hq => by rw [go_u]; exact k v h' hq⟩
theorem CL.stayV {P : Program} {f : FuncId} {vs : List V} {h : H} {e : V} {m : Nat} {l : List CO} {t : F} {K : F → H → Prop} (a : FnOk P f vs (reFloor h) fun y h' => y = e ∧ h' = reFloor h) (k : ∀ h', Stay nowhere h h' → DO P l (put m e t) h' K) : CL P f vs (reFloor h) (.u m l t h K) :=
 CL.stayU (a.mono fun v h' q => ⟨q.1, by rw [q.2]; exact Stay.refl _ _⟩) k
theorem fp_ssT {P : Program} {h h0 : H} {ps : List Pt} {t : F} {z : List V} {e : Option (Nat × Nat)} {off : Nat} {N : Nx} {v : V} {L : List Tbl} (a : Tbs h0 v L) : FP P off 1 v ps t z e h N = if off + 1 ≤ z.length then FL P ps t (z.take off ++ (v :: z.drop (off + 1))) e h N else FPJ P off 1 v ps t z e h N := by
 rcases a with ⟨rfl, _⟩ | ⟨id, g, off', fin, cap, rfl, _⟩
 · exact fp_l0
 · exact fp_l
theorem ss_reT {h : H} {v : V} {L : List Tbl} (a : Tbs h v L) : Tbs (reFloor h) v L := by cases h; exact a
theorem ss_unT {h h0 : H} {v : V} {L : List Tbl} (a : Tbs h v L) : Tbs (unFloor h0 h) v L := by cases h; cases h0; exact a
theorem row_reT {h : H} {b : B} {xs : List V} (a : Row h b 0 0 xs) : Row (reFloor h) b 0 0 xs := by cases h; exact a
theorem re_nxT (h : H) : (reFloor h).next = h.next := by cases h; rfl
section
variable {h : H} {b : B} {v : V} {S : Sht}
theorem stabsR_ok (r : Row h b 0 0 [v, .i .i64 S.log, .i .i64 S.seq, .i .i64 S.next]) (hL : Tbs h v S.L) (hl : S.L.length ≤ 1000) (hf : B.val h.floor ≤ B.val h.next) : FnOk Try.prog 22 [.p b 0 0 4] h fun y h' => Rt h' y S.L ∧ (∀ q, isOf y q → B.val h.next ≤ B.val q) ∧ Stay nowhere h h' := by
 refine fn_go c22 (by intro hb; cases hb) (by simp) (by simp) fun Q hQ => ?_
 simp only [slotsF, Nat.reduceAdd]
 repeat' (first
   | refine St.h ?_
   | simp (disch := first | omega | (simp only [lnv]; omega)) only [wlk, ↓get_put', ↓reduceIte, seval, r.l1]
   | (with_reducible (first | apply cd_split | apply gd_split)) <;> (intro hc; (try simp only [hcn] at hc); (try simp only [hc]); (try simp only [hcl] at hc); try omega))
 refine CL.mk (cloneT_ok hL hl hf) ?_
 rintro y h1 ⟨r1, r2, r3⟩
 repeat' (first
   | refine St.h ?_
   | simp (disch := first | omega | (simp only [lnv]; omega)) only [wlk, ↓get_put', ↓reduceIte, seval]
   | (with_reducible (first | apply cd_split | apply gd_split)) <;> (intro hc; (try simp only [hcn] at hc); (try simp only [hc]); (try simp only [hcl] at hc); try omega))
 subst hQ
 exact ⟨r1, r2, r3⟩
theorem slogR_ok (r : Row h b 0 0 [v, .i .i64 S.log, .i .i64 S.seq, .i .i64 S.next]) : FnOk Try.prog 19 [.p b 0 0 4] h fun y h' => y = .i .i64 S.log ∧ h' = h := by
 refine fn_go c19 (by intro hb; cases hb) (by simp) (by simp) fun Q hQ => ?_
 simp only [slotsF, Nat.reduceAdd]
 repeat' (first
   | refine St.h ?_
   | simp (disch := first | omega | (simp only [lnv]; omega)) only [wlk, ↓get_put', ↓reduceIte, seval, r.l1]
   | (with_reducible (first | apply cd_split | apply gd_split)) <;> (intro hc; (try simp only [hcn] at hc); (try simp only [hc]); (try simp only [hcl] at hc); try omega))
 subst hQ
 exact ⟨rfl, rfl⟩
theorem sseqR_ok (r : Row h b 0 0 [v, .i .i64 S.log, .i .i64 S.seq, .i .i64 S.next]) : FnOk Try.prog 20 [.p b 0 0 4] h fun y h' => y = .i .i64 S.seq ∧ h' = h := by
 refine fn_go c20 (by intro hb; cases hb) (by simp) (by simp) fun Q hQ => ?_
 simp only [slotsF, Nat.reduceAdd]
 repeat' (first
   | refine St.h ?_
   | simp (disch := first | omega | (simp only [lnv]; omega)) only [wlk, ↓get_put', ↓reduceIte, seval, r.l1]
   | (with_reducible (first | apply cd_split | apply gd_split)) <;> (intro hc; (try simp only [hcn] at hc); (try simp only [hc]); (try simp only [hcl] at hc); try omega))
 subst hQ
 exact ⟨rfl, rfl⟩
theorem snextR_ok (r : Row h b 0 0 [v, .i .i64 S.log, .i .i64 S.seq, .i .i64 S.next]) : FnOk Try.prog 21 [.p b 0 0 4] h fun y h' => y = .i .i64 S.next ∧ h' = h := by
 refine fn_go c21 (by intro hb; cases hb) (by simp) (by simp) fun Q hQ => ?_
 simp only [slotsF, Nat.reduceAdd]
 repeat' (first
   | refine St.h ?_
   | simp (disch := first | omega | (simp only [lnv]; omega)) only [wlk, ↓get_put', ↓reduceIte, seval, r.l1]
   | (with_reducible (first | apply cd_split | apply gd_split)) <;> (intro hc; (try simp only [hcn] at hc); (try simp only [hc]); (try simp only [hcl] at hc); try omega))
 subst hQ
 exact ⟨rfl, rfl⟩
theorem CL.tabsU {l : List CO} {t : F} {K : F → H → Prop} {m : Nat} (a : ShP h b v S) (hl : S.L.length ≤ 1000) (k : ∀ w h', Tbs h' w S.L → (∀ q, isOf w q → B.val h.next ≤ B.val q) → Stay nowhere h h' → DO Try.prog l (put m w t) h' K) : CL Try.prog 22 [.p b 0 0 4] (reFloor h) (.u m l t h K) := by
 refine CL.mkV (stabsR_ok (S := S) (row_reT a.1.row) (ss_reT a.2.1) hl (re_fl _)) ?_
 rintro w h1 ⟨w1, w2, s1⟩
 exact k w _ (ss_unT w1.tbs) (fun q hq => by have := w2 q hq; rwa [re_nxT] at this) s1.unfloor
theorem scopy_ok (a : ShP h b v S) (hl : S.L.length ≤ 1000) (hf : B.val h.floor ≤ B.val h.next) : FnOk Try.prog 12 [.p b 0 0 4] h fun y h' => ∃ q w, y = .p q 0 0 4 ∧ ShP h' q w S ∧ B.val h.next ≤ B.val q ∧ (∀ q, isOf w q → B.val h.next ≤ B.val q) ∧ Stay nowhere h h' := by
 refine fn_go c12 (by intro hb; cases hb) (by simp) (by simp) fun Q hQ => ?_
 simp only [slotsF, Nat.reduceAdd]
 repeat' (first
   | refine St.h ?_
   | simp (disch := first | omega | (simp only [lnv]; omega)) only [wlk, ↓get_put', ↓reduceIte, seval]
   | (with_reducible (first | apply cd_split | apply gd_split)) <;> (intro hc; (try simp only [hcn] at hc); (try simp only [hc]); (try simp only [hcl] at hc); try omega))
 refine CL.tabsU a hl fun w h1 w1 w2 s1 => ?_
 have a1 := a.grow s1
 have r1 := a1.1.row
 have hf1 := s1.fl hf
 have rr := row_reT r1
 repeat' (first
   | refine St.h ?_
   | simp (disch := first | omega | (simp only [lnv]; omega)) only [wlk, ↓get_put', ↓reduceIte, seval, r1.l1, rr.l1, fp_ssT w1]
   | (with_reducible (first | apply cd_split | apply gd_split)) <;> (intro hc; (try simp only [hcn] at hc); (try simp only [hc]); (try simp only [hcl] at hc); try omega))
 refine AL.own (by simp) hf1 fun h2 s2 n2 o2 => ?_
 have a2 : ShP h2 h1.next w S := ⟨o2, w1.grow s2, fun q hq e => by
   have hw : ∀ q, isOf w q → B.val q < B.val h1.next := by
     rcases w1 with ⟨rfl, _⟩ | ⟨id, g, off, fin, cap, rfl, _, hl, _⟩
     · rintro q ⟨_, _, _, _, _, e⟩; cases e
     · rintro q ⟨_, _, _, _, _, e⟩; cases e; exact hl
   have := hw q hq; rw [e] at this; omega⟩
 repeat' (first
   | refine St.h ?_
   | simp (disch := first | omega | (simp only [lnv]; omega)) only [wlk, ↓get_put', ↓reduceIte, seval]
   | (with_reducible (first | apply cd_split | apply gd_split)) <;> (intro hc; (try simp only [hcn] at hc); (try simp only [hc]); (try simp only [hcl] at hc); try omega))
 subst hQ
 exact ⟨_, w, rfl, a2, s1.next, w2, s1.trans s2⟩
end
theorem alike_ok {h : H} {b r : B} {v u : V} {S : Sht} (a : ShP h b v S) (c : ShP h r u S) (wf : Wf S) (hf : B.val h.floor ≤ B.val h.next) : FnOk Try.prog 15 [.p b 0 0 4, .p r 0 0 4] h fun y h' => y = .b true ∧ Stay nowhere h h' := by
 have hl := wf.len
 have hl1 : S.L.length ≤ 1000 := by omega
 refine fn_go c15 (by intro hb; cases hb) (by simp) (by simp) fun Q hQ => ?_
 simp only [slotsF, Nat.reduceAdd]
 repeat' (first
   | refine St.h ?_
   | simp (disch := first | omega | (simp only [lnv]; omega)) only [wlk, ↓get_put', ↓reduceIte, seval, or_ptr, h2_ptr10]
   | (with_reducible (first | apply cd_split | apply gd_split)) <;> (intro hc; (try simp only [hcn] at hc); (try simp only [hc]); (try simp only [hcl] at hc); try omega))
 refine CL.tabsU a hl1 fun w h1 w1 w2 s1 => ?_
 have c1 := c.grow s1
 have r1 := c1.1.row
 have rr := row_reT r1
 have hf1 := s1.fl hf
 repeat' (first
   | refine St.h ?_
   | simp (disch := first | omega | (simp only [lnv]; omega)) only [wlk, ↓get_put', ↓reduceIte, seval, r1.l1, rr.l1]
   | (with_reducible (first | apply cd_split | apply gd_split)) <;> (intro hc; (try simp only [hcn] at hc); (try simp only [hc]); (try simp only [hcl] at hc); try omega))
 refine CL.pure (same_ok w1 c1.2.1 hl1) ?_
 repeat' (first
   | refine St.h ?_
   | simp (disch := first | omega | (simp only [lnv]; omega)) only [wlk, ↓get_put', ↓reduceIte, seval]
   | (with_reducible (first | apply cd_split | apply gd_split)) <;> (intro hc; (try simp only [hcn] at hc); (try simp only [hc]); (try simp only [hcl] at hc); try omega))
 refine CL.mk (stier_ok (k := 0) (a.grow s1) hl1 hf1) ?_
 rintro x2 h2 ⟨x21, s2⟩
 have t2 := s1.trans s2
 repeat' (first
   | refine St.h ?_
   | simp (disch := first | omega | (simp only [lnv]; omega)) only [wlk, ↓get_put', ↓reduceIte, seval]
   | (with_reducible (first | apply cd_split | apply gd_split)) <;> (intro hc; (try simp only [hcn] at hc); (try simp only [hc]); (try simp only [hcl] at hc); try omega))
 refine CL.mk (rtier_ok (k := 0) (c.grow t2) hl1 (t2.fl hf)) ?_
 rintro x3 h3 ⟨x31, s3⟩
 have t3 := t2.trans s3
 repeat' (first
   | refine St.h ?_
   | simp (disch := first | omega | (simp only [lnv]; omega)) only [wlk, ↓get_put', ↓reduceIte, seval]
   | (with_reducible (first | apply cd_split | apply gd_split)) <;> (intro hc; (try simp only [hcn] at hc); (try simp only [hc]); (try simp only [hcl] at hc); try omega))
 refine CL.pure (same_ok (x21.grow s3) x31 (Nat.le_trans (List.length_filter_le _ _) hl1)) ?_
 repeat' (first
   | refine St.h ?_
   | simp (disch := first | omega | (simp only [lnv]; omega)) only [wlk, ↓get_put', ↓reduceIte, seval]
   | (with_reducible (first | apply cd_split | apply gd_split)) <;> (intro hc; (try simp only [hcn] at hc); (try simp only [hc]); (try simp only [hcl] at hc); try omega))
 refine CL.mk (stier_ok (k := 1) (a.grow t3) hl1 (t3.fl hf)) ?_
 rintro x4 h4 ⟨x41, s4⟩
 have t4 := t3.trans s4
 repeat' (first
   | refine St.h ?_
   | simp (disch := first | omega | (simp only [lnv]; omega)) only [wlk, ↓get_put', ↓reduceIte, seval]
   | (with_reducible (first | apply cd_split | apply gd_split)) <;> (intro hc; (try simp only [hcn] at hc); (try simp only [hc]); (try simp only [hcl] at hc); try omega))
 refine CL.mk (rtier_ok (k := 1) (c.grow t4) hl1 (t4.fl hf)) ?_
 rintro x5 h5 ⟨x51, s5⟩
 have t5 := t4.trans s5
 repeat' (first
   | refine St.h ?_
   | simp (disch := first | omega | (simp only [lnv]; omega)) only [wlk, ↓get_put', ↓reduceIte, seval]
   | (with_reducible (first | apply cd_split | apply gd_split)) <;> (intro hc; (try simp only [hcn] at hc); (try simp only [hc]); (try simp only [hcl] at hc); try omega))
 refine CL.pure (same_ok (x41.grow s5) x51 (Nat.le_trans (List.length_filter_le _ _) hl1)) ?_
 repeat' (first
   | refine St.h ?_
   | simp (disch := first | omega | (simp only [lnv]; omega)) only [wlk, ↓get_put', ↓reduceIte, seval]
   | (with_reducible (first | apply cd_split | apply gd_split)) <;> (intro hc; (try simp only [hcn] at hc); (try simp only [hc]); (try simp only [hcl] at hc); try omega))
 refine CL.mk (stier_ok (k := 2) (a.grow t5) hl1 (t5.fl hf)) ?_
 rintro x6 h6 ⟨x61, s6⟩
 have t6 := t5.trans s6
 have hno : S.L.filter (fun t => decide (t.tier = 2)) = [] := List.filter_eq_nil_iff.2 fun t ht => by
   have := (isTb_iff.1 (wf.tb t ht)).2.2.1
   rw [decide_eq_true_iff]; omega
 rw [hno] at x61
 have a6 := a.grow t6
 have c6 := c.grow t6
 have ra := row_reT a6.1.row
 have rc := c6.1.row
 have rcr := row_reT rc
 have hl6 : ((([] : List Tbl).length : Nat) : Int) = 0 := rfl
 repeat' (first
   | refine St.h ?_
   | simp (disch := first | omega | (simp only [lnv]; omega)) only [wlk, ↓get_put', ↓reduceIte, seval, x61.ln, hl6]
   | (with_reducible (first | apply cd_split | apply gd_split)) <;> (intro hc; (try simp only [hcn] at hc); (try simp only [hc]); (try simp only [hcl] at hc); try omega))
 refine CL.stayV (slogR_ok ra) fun h7 s7 => ?_
 have t7 := t6.trans s7
 have ra7 := row_reT (a.grow t7).1.row
 have rc7 := (c.grow t7).1.row
 have rcr7 := row_reT rc7
 repeat' (first
   | refine St.h ?_
   | simp (disch := first | omega | (simp only [lnv]; omega)) only [wlk, ↓get_put', ↓reduceIte, seval, rc7.l1, rcr7.l1]
   | (with_reducible (first | apply cd_split | apply gd_split)) <;> (intro hc; (try simp only [hcn] at hc); (try simp only [hc]); (try simp only [hcl] at hc); try omega))
 refine CL.stayV (sseqR_ok ra7) fun h8 s8 => ?_
 have t8 := t7.trans s8
 have ra8 := row_reT (a.grow t8).1.row
 have rc8 := (c.grow t8).1.row
 have rcr8 := row_reT rc8
 repeat' (first
   | refine St.h ?_
   | simp (disch := first | omega | (simp only [lnv]; omega)) only [wlk, ↓get_put', ↓reduceIte, seval, rc8.l1, rcr8.l1]
   | (with_reducible (first | apply cd_split | apply gd_split)) <;> (intro hc; (try simp only [hcn] at hc); (try simp only [hc]); (try simp only [hcl] at hc); try omega))
 refine CL.stayV (snextR_ok ra8) fun h9 s9 => ?_
 have t9 := t8.trans s9
 have rc9 := (c.grow t9).1.row
 have rcr9 := row_reT rc9
 repeat' (first
   | refine St.h ?_
   | simp (disch := first | omega | (simp only [lnv]; omega)) only [wlk, ↓get_put', ↓reduceIte, seval, rc9.l1, rcr9.l1]
   | (with_reducible (first | apply cd_split | apply gd_split)) <;> (intro hc; (try simp only [hcn] at hc); (try simp only [hc]); (try simp only [hcl] at hc); try omega))
 subst hQ
 exact ⟨rfl, t9⟩
end Go.Proofs.Ytclpemggclmgeaa

set_option maxRecDepth 100000
set_option maxHeartbeats 8000000
set_option linter.all false
namespace Go.Proofs.Ytclpemggclmgeaa
open Go Go.Ev
section
variable {T : F} {g : H} {K : Ev.X → F → H → Prop} {s r : B} {v : V} {L : List Ek} {i : Nat} {QA : V → H → Prop}
theorem dw_pl (e0 : get 0 T = v) (e3 : get 3 T = .p s 0 0 4) (e4 : get 4 T = .p r 0 0 4) (e5 : get 5 T = .i .i64 (i : Int)) (a : Eds g v L) (hi : i < L.length)
   (hA : FnOk Try.prog 13 [.p s 0 0 4, .a [(L.getD i default).gv, (L.getD i default).cv, .i .i64 (L.getD i default).e.log, .i .i64 (L.getD i default).e.seq]] g QA)
   (hB : ∀ y1 g2, QA y1 g2 → Eds g2 v L ∧ ∃ QB, FnOk Try.prog 14 [.p r 0 0 4, .a [(L.getD i default).gv, (L.getD i default).cv, .i .i64 (L.getD i default).e.log, .i .i64 (L.getD i default).e.seq]] g2 QB ∧
     ∀ y2 g3, QB y2 g3 → ∀ U, get 0 U = v → get 3 U = .p s 0 0 4 → get 4 U = .p r 0 0 4 → get 5 U = .i .i64 (i : Int) → get 7 U = y1 → get 8 U = y2 → K .normal U g3) :
   DW Try.prog 54 [uB 30 (doMove (tm 3)), uB 31 (doMove (tm 0)), uB 32 (doMove (tm 5)), uB 33 (doIndexAddr 4 (tm 31) (tm 32)), uB 34 (doLoadA 4 (tm 33)), uB 35 (doCall 13 [tm 30, tm 34]), uB 36 (doMove (tm 4)), uB 37 (doMove (tm 0)), uB 38 (doMove (tm 5)), uB 39 (doIndexAddr 4 (tm 37) (tm 38)), uB 40 (doLoadA 4 (tm 39)), wB 41 (doCall 14 [tm 36, tm 40]), uB 7 (doMove (tm 35)), uB 8 (doMove (tm 41))] T g K := by
 generalize hcc : V.a [(L.getD i default).gv, (L.getD i default).cv, .i .i64 (L.getD i default).e.log, .i .i64 (L.getD i default).e.seq] = C at *
 have la : ∀ {h N}, Eds h v L → LN Try.prog (lid v) (lg v) (loff v + i * 4) (lfin v) 4 h N = N.go Try.prog C h := fun a => by rw [a.la hi, hcc]
 have a1 : [tm 30, tm 34].map (fun o => oV o (put 34 C (put 33 (.p (lid v) (lg v) (loff v + i * 4) (lfin v)) (put 32 (.i .i64 (i : Int)) (put 31 v (put 30 (.p s 0 0 4) T)))))) = [.p s 0 0 4, C] := by simp (disch := first | omega | (simp only [lnv]; omega)) only [wlk, ↓get_put', ↓reduceIte, seval]
 obtain ⟨y1, g2, r1, p1⟩ := run_call' hA a1
 obtain ⟨a2, QB, hB2, fin⟩ := hB y1 g2 p1
 obtain ⟨T2, hT2⟩ : ∃ T2, T2 = put 35 y1 (put 34 C (put 33 (.p (lid v) (lg v) (loff v + i * 4) (lfin v)) (put 32 (.i .i64 (i : Int)) (put 31 v (put 30 (.p s 0 0 4) T))))) := ⟨_, rfl⟩
 have x0 : get 0 T2 = v := by rw [hT2]; simp (disch := first | omega | (simp only [lnv]; omega)) only [wlk, ↓get_put', ↓reduceIte, seval, e0]
 have x3 : get 3 T2 = .p s 0 0 4 := by rw [hT2]; simp (disch := first | omega | (simp only [lnv]; omega)) only [wlk, ↓get_put', ↓reduceIte, seval, e3]
 have x4 : get 4 T2 = .p r 0 0 4 := by rw [hT2]; simp (disch := first | omega | (simp only [lnv]; omega)) only [wlk, ↓get_put', ↓reduceIte, seval, e4]
 have x5 : get 5 T2 = .i .i64 (i : Int) := by rw [hT2]; simp (disch := first | omega | (simp only [lnv]; omega)) only [wlk, ↓get_put', ↓reduceIte, seval, e5]
 have xc : get 35 T2 = y1 := by rw [hT2]; simp (disch := first | omega | (simp only [lnv]; omega)) only [wlk, ↓get_put', ↓reduceIte, seval]
 have b1 : [tm 36, tm 40].map (fun o => oV o (put 40 C (put 39 (.p (lid v) (lg v) (loff v + i * 4) (lfin v)) (put 38 (.i .i64 (i : Int)) (put 37 v (put 36 (.p r 0 0 4) T2)))))) = [.p r 0 0 4, C] := by simp (disch := first | omega | (simp only [lnv]; omega)) only [wlk, ↓get_put', ↓reduceIte, seval]
 obtain ⟨y2, g3, r2, p2⟩ := run_call' hB2 b1
 refine DW.gen (pre := [uB 30 (doMove (tm 3)), uB 31 (doMove (tm 0)), uB 32 (doMove (tm 5)), uB 33 (doIndexAddr 4 (tm 31) (tm 32)), uB 34 (doLoadA 4 (tm 33))]) (mid := [uB 36 (doMove (tm 4)), uB 37 (doMove (tm 0)), uB 38 (doMove (tm 5)), uB 39 (doIndexAddr 4 (tm 37) (tm 38)), uB 40 (doLoadA 4 (tm 39))]) (rest := [uB 7 (doMove (tm 35)), uB 8 (doMove (tm 41))]) (A := uB 35 (doCall 13 [tm 30, tm 34])) (g := .none) (d := .some (slOf 41)) (t2 := T2) (h := g) (h2 := g2) (h3 := g3) hmix rfl ?_ (by rw [hT2]; exact opRel_u 35 _ r1) ?_ (opRel_c r2) (t5 := put 8 y2 (put 7 y1 (put 41 y2 (put 40 C (put 39 (.p (lid v) (lg v) (loff v + i * 4) (lfin v)) (put 38 (.i .i64 (i : Int)) (put 37 v (put 36 (.p r 0 0 4) T2)))))))) ?_ ?_
 · refine ops2_u 30 _ (.p s 0 0 4) (rv_of (by simp (disch := first | omega | (simp only [lnv]; omega)) only [wlk, ↓get_put', ↓reduceIte, seval, e3])) (rv_of (by simp (disch := first | omega | (simp only [lnv]; omega)) only [wlk, ↓get_put', ↓reduceIte, seval, e3])) ?_
   refine ops2_u 31 _ v (rv_of (by simp (disch := first | omega | (simp only [lnv]; omega)) only [wlk, ↓get_put', ↓reduceIte, seval, e0])) (rv_of (by simp (disch := first | omega | (simp only [lnv]; omega)) only [wlk, ↓get_put', ↓reduceIte, seval, e0])) ?_
   refine ops2_u 32 _ (.i .i64 (i : Int)) (rv_of (by simp (disch := first | omega | (simp only [lnv]; omega)) only [wlk, ↓get_put', ↓reduceIte, seval, e5])) (rv_of (by simp (disch := first | omega | (simp only [lnv]; omega)) only [wlk, ↓get_put', ↓reduceIte, seval, e5])) ?_
   refine ops2_u 33 _ (.p (lid v) (lg v) (loff v + i * 4) (lfin v)) (rv_of (by simp (disch := first | omega | (simp only [lnv]; omega)) only [wlk, ↓get_put', ↓reduceIte, seval, a.ix, Int.toNat_natCast])) (rv_of (by simp (disch := first | omega | (simp only [lnv]; omega)) only [wlk, ↓get_put', ↓reduceIte, seval, a.ix, Int.toNat_natCast])) ?_
   refine ops2_u 34 _ C (rv_of (by simp (disch := first | omega | (simp only [lnv]; omega)) only [wlk, ↓get_put', ↓reduceIte, seval, la a])) (rv_of (by simp (disch := first | omega | (simp only [lnv]; omega)) only [wlk, ↓get_put', ↓reduceIte, seval, la a2])) ?_
   exact ops2_n
 · refine ops2_u 36 _ (.p r 0 0 4) (rv_of (by simp (disch := first | omega | (simp only [lnv]; omega)) only [wlk, ↓get_put', ↓reduceIte, seval, x4])) (rv_of (by simp (disch := first | omega | (simp only [lnv]; omega)) only [wlk, ↓get_put', ↓reduceIte, seval, x4])) ?_
   refine ops2_u 37 _ v (rv_of (by simp (disch := first | omega | (simp only [lnv]; omega)) only [wlk, ↓get_put', ↓reduceIte, seval, x0])) (rv_of (by simp (disch := first | omega | (simp only [lnv]; omega)) only [wlk, ↓get_put', ↓reduceIte, seval, x0])) ?_
   refine ops2_u 38 _ (.i .i64 (i : Int)) (rv_of (by simp (disch := first | omega | (simp only [lnv]; omega)) only [wlk, ↓get_put', ↓reduceIte, seval, x5])) (rv_of (by simp (disch := first | omega | (simp only [lnv]; omega)) only [wlk, ↓get_put', ↓reduceIte, seval, x5])) ?_
   refine ops2_u 39 _ (.p (lid v) (lg v) (loff v + i * 4) (lfin v)) (rv_of (by simp (disch := first | omega | (simp only [lnv]; omega)) only [wlk, ↓get_put', ↓reduceIte, seval, a.ix, Int.toNat_natCast])) (rv_of (by simp (disch := first | omega | (simp only [lnv]; omega)) only [wlk, ↓get_put', ↓reduceIte, seval, a.ix, Int.toNat_natCast])) ?_
   refine ops2_u 40 _ C (rv_of (by simp (disch := first | omega | (simp only [lnv]; omega)) only [wlk, ↓get_put', ↓reduceIte, seval, la a])) (rv_of (by simp (disch := first | omega | (simp only [lnv]; omega)) only [wlk, ↓get_put', ↓reduceIte, seval, la a2])) ?_
   exact ops2_n
 · refine ops2_u 7 _ y1 (rv_of (by simp (disch := first | omega | (simp only [lnv]; omega)) only [wlk, ↓get_put', ↓reduceIte, seval, xc])) (rv_of (by simp (disch := first | omega | (simp only [lnv]; omega)) only [wlk, ↓get_put', ↓reduceIte, seval, xc])) ?_
   refine ops2_u 8 _ y2 (rv_of (by simp (disch := first | omega | (simp only [lnv]; omega)) only [wlk, ↓get_put', ↓reduceIte, seval, xc])) (rv_of (by simp (disch := first | omega | (simp only [lnv]; omega)) only [wlk, ↓get_put', ↓reduceIte, seval, xc])) ?_
   exact ops2_n
 · exact fin _ _ p2 _ (by simp (disch := first | omega | (simp only [lnv]; omega)) only [wlk, ↓get_put', ↓reduceIte, seval, x0]) (by simp (disch := first | omega | (simp only [lnv]; omega)) only [wlk, ↓get_put', ↓reduceIte, seval, x3]) (by simp (disch := first | omega | (simp only [lnv]; omega)) only [wlk, ↓get_put', ↓reduceIte, seval, x4]) (by simp (disch := first | omega | (simp only [lnv]; omega)) only [wlk, ↓get_put', ↓reduceIte, seval, x5]) (by simp (disch := first | omega | (simp only [lnv]; omega)) only [wlk, ↓get_put', ↓reduceIte, seval]) (by simp (disch := first | omega | (simp only [lnv]; omega)) only [wlk, ↓get_put', ↓reduceIte, seval])
end
theorem ShP.ult {h : H} {b : B} {v : V} {S : Sht} (a : ShP h b v S) : ∀ q, isOf v q → B.val q < B.val h.next := a.lt.2
def edQ : Edt := ⟨[], [⟨999999, 0, [113], [113], 1⟩], 0, 0⟩
theorem edQ_m {h : H} {id : B} (o : Ev.Own h id (tblC ⟨999999, 0, [113], [113], 1⟩)) : EdM h .l0 (.l id 0 0 1 5 (some 1)) edQ := by
 refine ⟨.inl ⟨rfl, rfl⟩, .inr ⟨id, 0, 0, 5, some 1, rfl, by simp [edQ], ?_, ?_⟩⟩
 · obtain ⟨_, _, _, _, _, _, h6, _⟩ := o; exact h6
 · show Row h id 0 0 ([⟨999999, 0, [113], [113], 1⟩].flatMap tblC)
   exact o.row
theorem sheetPlays_ok {h : H} {v : V} {K : List Ek} (a : Eds h v K) (hl : K.length ≤ 9223372036854775807) (hf : B.val h.floor ≤ B.val h.next) : FnOk Try.prog 3 [v] h fun y h' => y = .b true := by
 refine fn_go c3 (by intro hb; cases hb) (by simp) (by simp) fun Q hQ => ?_
 simp only [slotsF, Nat.reduceAdd]
 repeat' (first
   | refine St.h ?_
   | simp (disch := first | omega | (simp only [lnv]; omega)) only [wlk, ↓get_put', ↓reduceIte, seval]
   | (with_reducible (first | apply cd_split | apply gd_split)) <;> (intro hc; (try simp only [hcn] at hc); (try simp only [hc]); (try simp only [hcl] at hc); try omega))
 refine CL.pure known13 ?_
 repeat' (first
   | refine St.h ?_
   | simp (disch := first | omega | (simp only [lnv]; omega)) only [wlk, ↓get_put', ↓reduceIte, seval]
   | (with_reducible (first | apply cd_split | apply gd_split)) <;> (intro hc; (try simp only [hcn] at hc); (try simp only [hc]); (try simp only [hcl] at hc); try omega))
 refine CL.mk (few_ok a hl) ?_
 rintro _ _ ⟨x, rfl, hr, rfl⟩
 cases x with
 | false =>
   repeat' (first
     | refine St.h ?_
     | simp (disch := first | omega | (simp only [lnv]; omega)) only [wlk, ↓get_put', ↓reduceIte, seval]
     | (with_reducible (first | apply cd_split | apply gd_split)) <;> (intro hc; (try simp only [hcn] at hc); (try simp only [hc]); (try simp only [hcl] at hc); try omega))
   subst hQ
   rfl
 | true =>
 have Fw := hr rfl
 repeat' (first
   | refine St.h ?_
   | simp (disch := first | omega | (simp only [lnv]; omega)) only [wlk, ↓get_put', ↓reduceIte, seval]
   | (with_reducible (first | apply cd_split | apply gd_split)) <;> (intro hc; (try simp only [hcn] at hc); (try simp only [hc]); (try simp only [hcl] at hc); try omega))
 refine CL.mk (snew_ok hf) ?_
 rintro _ h1 ⟨rfl, a1, n1, s1⟩
 repeat' (first
   | refine St.h ?_
   | simp (disch := first | omega | (simp only [lnv]; omega)) only [wlk, ↓get_put', ↓reduceIte, seval]
   | (with_reducible (first | apply cd_split | apply gd_split)) <;> (intro hc; (try simp only [hcn] at hc); (try simp only [hc]); (try simp only [hcl] at hc); try omega))
 refine CL.mk (rnew_ok (s1.fl hf)) ?_
 rintro _ h2 ⟨rfl, a2, n2, s2⟩
 repeat' (first
   | refine St.h ?_
   | simp (disch := first | omega | (simp only [lnv]; omega)) only [wlk, ↓get_put', ↓reduceIte, seval]
   | (with_reducible (first | apply cd_split | apply gd_split)) <;> (intro hc; (try simp only [hcn] at hc); (try simp only [hc]); (try simp only [hcl] at hc); try omega))
 refine Ok.lp (fun m t g => ∃ (i : Nat) (b r : B) (u w : V) (S : Sht), m = K.length - i ∧ i ≤ K.length ∧ get 0 t = v ∧ get 3 t = .p b 0 0 4 ∧ get 4 t = .p r 0 0 4 ∧ get 5 t = .i .i64 (i : Int) ∧ ShP g b u S ∧ ShP g r w S ∧ Wf S ∧ b ≠ r ∧ (∀ q, isOf u q → q ≠ r) ∧ (∀ q, isOf w q → q ≠ b) ∧ B.val h.next ≤ B.val b ∧ B.val h.next ≤ B.val r ∧ Stay nowhere h g) K.length ?_ ?_
 · simp (disch := first | omega | (simp only [lnv]; omega)) only [wlk, ↓get_put', ↓reduceIte, seval]
   refine ⟨0, h.next, h1.next, .l0, .l0, shtZ, by omega, by omega, ?_⟩
   refine ⟨?_, ?_, ?_, ?_, a1.grow s2, a2, wfZ, fun e => by rw [← e] at n1; omega, ?_, ?_, Nat.le_refl _, s1.next, s1.trans s2⟩
   rotate_right
   · rintro q ⟨_, _, _, _, _, e⟩; cases e
   rotate_right
   · rintro q ⟨_, _, _, _, _, e⟩; cases e
   all_goals first | trivial | rfl
 rintro I hI m t g ⟨i, b, r, u, w, S, rfl, hi, f0, f3, f4, f5, sp, sr, wf, hbr, hur, hwb, hb, hrr, st⟩
 have ag := a.grow st
 have hfg := st.fl hf
 have hls := wf.len
 by_cases hil : i < K.length
 case neg =>
   obtain rfl : i = K.length := by omega
   have d1 : ((K.length : Int) < (K.length : Int)) = False := eq_false (by omega)
   repeat' (first
     | refine St.h ?_
     | simp (disch := first | omega | (simp only [lnv]; omega)) only [wlk, ↓get_put', ↓reduceIte, seval, f0, f3, f4, f5, d1, a.ln]
     | (with_reducible (first | apply cd_split | apply gd_split)) <;> (intro hc; (try simp only [hcn] at hc); (try simp only [hc]); (try simp only [hcl] at hc); try omega))
   refine CL.stay (alike_ok sp sr wf hfg) fun g9 s9 => ?_
   repeat' (first
     | refine St.h ?_
     | simp (disch := first | omega | (simp only [lnv]; omega)) only [wlk, ↓get_put', ↓reduceIte, seval]
     | (with_reducible (first | apply cd_split | apply gd_split)) <;> (intro hc; (try simp only [hcn] at hc); (try simp only [hc]); (try simp only [hcl] at hc); try omega))
   subst hQ
   rfl
 have d1 : ((i : Int) < (K.length : Int)) = True := eq_true (by omega)
 repeat' (first
   | refine St.h ?_
   | simp (disch := first | omega | (simp only [lnv]; omega)) only [wlk, ↓get_put', ↓reduceIte, seval, f0, f3, f4, f5, d1, a.ln]
   | (with_reducible (first | apply cd_split | apply gd_split)) <;> (intro hc; (try simp only [hcn] at hc); (try simp only [hc]); (try simp only [hcl] at hc); try omega))
 refine CL.mk (scopy_ok sp (by omega) hfg) ?_
 rintro _ g2 ⟨b2, u2, rfl, sp2, nb2, nu2, t2⟩
 have hf2 := t2.fl hfg
 repeat' (first
   | refine St.h ?_
   | simp (disch := first | omega | (simp only [lnv]; omega)) only [wlk, ↓get_put', ↓reduceIte, seval, f0, f3, f4, f5]
   | (with_reducible (first | apply cd_split | apply gd_split)) <;> (intro hc; (try simp only [hcn] at hc); (try simp only [hc]); (try simp only [hcl] at hc); try omega))
 refine AL.own (by simp) hf2 fun g3 t3 n3 o3 => ?_
 have o3 : Ev.Own g3 g2.next (tblC ⟨999999, 0, [113], [113], 1⟩) := o3
 have t23 := t2.trans t3
 have hf3 := t23.fl hfg
 have bl := sp.lt.1
 have rl := sr.lt.1
 repeat' (first
   | refine St.h ?_
   | simp (disch := first | omega | (simp only [lnv]; omega)) only [wlk, ↓get_put', ↓reduceIte, seval, f0, f3, f4, f5]
   | (with_reducible (first | apply cd_split | apply gd_split)) <;> (intro hc; (try simp only [hcn] at hc); (try simp only [hc]); (try simp only [hcl] at hc); try omega))
 refine CL.mk (do_ok (e := edQ) (sp.grow t23) wf (edQ_m o3) (by simp [edQ]) (by simp [edQ]) (by simp [edQ]) hf3 ?_) ?_
 · rintro q ⟨_, _, _, _, _, e⟩ e2
   cases e
   have := t2.next
   rw [e2] at this; omega
 rintro y4 g4 ⟨_, _, _, _, t4⟩
 have t34 : Stay (fun q => q = b) g g4 := (t23.mono fun _ _ e => e.elim).trans t4
 have sp4 : ShP g4 b2 u2 S := (sp2.grow t3).stay t4 (fun e => by rw [e] at nb2; omega) fun q hq e => by have h1 := nu2 q hq; rw [e] at h1; omega
 have sr4 : ShP g4 r w S := sr.stay t34 (fun e => hbr e.symm) hwb
 have st4 : Stay nowhere h g4 := st.past' t34 fun q e => by rw [e]; exact hb
 have hf4 := st4.fl hf
 have ag4 := a.grow st4
 have f1 := Fw.2 i hil
 have n4 := t4.next
 have n23 := t23.next
 repeat' (first
   | with_reducible refine dwStop ?_
   | refine St.h ?_
   | simp (disch := first | omega | (simp only [lnv]; omega)) only [wlk, ↓get_put', ↓reduceIte, seval, f0, f3, f4, f5]
   | (with_reducible (first | apply cd_split | apply gd_split)) <;> (intro hc; (try simp only [hcn] at hc); (try simp only [hc]); (try simp only [hcl] at hc); try omega))
 refine dw_gen fun T hT => ?_
 have e0 : get 0 T = v := by rw [hT]; simp (disch := first | omega | (simp only [lnv]; omega)) only [wlk, ↓get_put', ↓reduceIte, seval, f0]
 have e3 : get 3 T = .p b2 0 0 4 := by rw [hT]; simp (disch := first | omega | (simp only [lnv]; omega)) only [wlk, ↓get_put', ↓reduceIte, seval]
 have e4 : get 4 T = .p r 0 0 4 := by rw [hT]; simp (disch := first | omega | (simp only [lnv]; omega)) only [wlk, ↓get_put', ↓reduceIte, seval, f4]
 have e5 : get 5 T = .i .i64 (i : Int) := by rw [hT]; simp (disch := first | omega | (simp only [lnv]; omega)) only [wlk, ↓get_put', ↓reduceIte, seval, f5]
 clear hT f0 f3 f4 f5
 have ca : ∀ q, isOf (K.getD i default).cv q → B.val q < B.val h.next := Eds.own a hil
 refine dw_pl e0 e3 e4 e5 ag4 hil (do_ok sp4 wf (ag4.at hil) (by have := f1.1; omega) (by have := f1.2.1; omega) (few_sz f1) hf4 fun q hq e => by have h1 := ca q hq; have := st.next; rw [e] at h1; omega) ?_
 rintro y1 g5 ⟨rfl, u5, sp5, ow5, t5⟩
 have st5 : Stay nowhere h g5 := st4.past' t5 fun q e => by have := st.next; rw [e]; omega
 have hf5 := st5.fl hf
 have ag5 := a.grow st5
 have n5 := t5.next
 have sr5 : ShP g5 r w S := sr4.stay t5 (fun e => by rw [← e] at nb2; omega) fun q hq e => by have h1 := sr.ult q hq; rw [e] at h1; omega
 refine ⟨ag5, _, rdo_ok sr5 (by omega) (ag5.at hil) (by have := f1.1; omega) (by have := f1.2.1; omega) hf5 (fun q hq e => by have h1 := ca q hq; rw [e] at h1; omega), ?_⟩
 rintro y2 g6 ⟨rfl, w6, sr6, ow6, t6⟩ U f0 f3 f4 f5 f7 f8
 have st6 : Stay nowhere h g6 := st5.past' t6 fun q e => by rw [e]; exact hrr
 have hf6 := st6.fl hf
 have b2r : b2 ≠ r := fun e => by rw [e] at nb2; omega
 have u5r : ∀ q, isOf u5 q → q ≠ r := fun q hq e => by
   rcases ow5 q hq with h1 | h1
   · have h2 := nu2 q h1; rw [e] at h2; omega
   · rw [e] at h1; omega
 have w6b : ∀ q, isOf w6 q → q ≠ b2 := fun q hq e => by
   rcases ow6 q hq with h1 | h1
   · have h2 := sr.ult q h1; rw [e] at h2; omega
   · have h2 := sp4.lt.1; rw [e] at h1; omega
 have sp6 := sp5.stay t6 b2r u5r
 have wf6 := do_wf (e := (K.getD i default).e) wf
 repeat' (first
   | refine St.h ?_
   | simp (disch := first | omega | (simp only [lnv]; omega)) only [wlk, ↓get_put', ↓reduceIte, seval, f0, f3, f4, f5, f7, f8]
   | (with_reducible (first | apply cd_split | apply gd_split)) <;> (intro hc; (try simp only [hcn] at hc); (try simp only [hc]); (try simp only [hcl] at hc); try omega))
 refine CL.stay (alike_ok sp6 sr6 wf6 hf6) fun g7 t7 => ?_
 repeat' (first
   | refine St.h ?_
   | simp (disch := first | omega | (simp only [lnv]; omega)) only [wlk, ↓get_put', ↓reduceIte, seval, f0, f3, f4, f5, f7, f8]
   | (with_reducible (first | apply cd_split | apply gd_split)) <;> (intro hc; (try simp only [hcn] at hc); (try simp only [hc]); (try simp only [hcl] at hc); try omega))
 exact lp_next hI (K.length - (i + 1)) (by omega) ⟨i + 1, b2, r, u5, w6, _, rfl, by omega, by simp (disch := first | omega | (simp only [lnv]; omega)) only [wlk, ↓get_put', ↓reduceIte, seval, f0], by simp (disch := first | omega | (simp only [lnv]; omega)) only [wlk, ↓get_put', ↓reduceIte, seval, f3], by simp (disch := first | omega | (simp only [lnv]; omega)) only [wlk, ↓get_put', ↓reduceIte, seval, f4], by simp (disch := first | omega | (simp only [lnv]; omega)) only [wlk, ↓get_put', ↓reduceIte, seval, f5]; rfl, sp6.grow t7, sr6.grow t7, wf6, b2r, u5r, w6b, by have := st.next; omega, hrr, st6.trans t7⟩
end Go.Proofs.Ytclpemggclmgeaa

set_option linter.all false
namespace Go.Proofs.Ytclpemggclmgeaa
open Go Go.Ev
theorem sheetPlays_l {h : H} {v : V} {K : List Ek} (a : Eds h v K) (hl : K.length ≤ 9223372036854775807) (hf : B.val h.floor ≤ B.val h.next) : FnOk Try.prog 3 [v] h fun y h' => y = .b true := sheetPlays_ok a hl hf
end Go.Proofs.Ytclpemggclmgeaa

namespace Go.Proofs.Ytclpemggclmgeaa.sheetPlays
open Go Go.Ev Go.ChangeShapes Go.WideShapes Go.ChangeAt Go.RowKit Go.ChangeMaps
set_option linter.all false
theorem own : ownKnob Try.prog.godebug = none := by kernel_rfl
theorem laid : laidOutB Try.prog = true := by kernel_rfl
theorem heap_pos {W : World} (h : W.ShapedOpen Try.prog) : 0 < W.heap.size := by
 obtain ⟨o, _, h1, _⟩ := h.2 Try.prog.globals.size (Nat.le_refl _) (of_decide_eq_true (by kernel_rfl))
 exact Nat.lt_of_le_of_lt (Nat.zero_le _) (Array.getElem?_eq_some_iff.1 h1).1
set_option maxRecDepth 100000 in
theorem isR0 : ∃ fs, EdF Try.prog 36 fs := ⟨_, ⟨Try.underlying36, by kernel_rfl, ⟨_, rfl, rfl, by kernel_rfl, _, Try.underlying34, by kernel_rfl, Try.underlying3⟩, ⟨_, rfl, rfl, by kernel_rfl, _, _, Try.underlying33, ⟨Try.underlying32, by kernel_rfl, ⟨⟨_, rfl, rfl, by kernel_rfl, Try.underlying3⟩, ⟨_, rfl, rfl, by kernel_rfl, Try.underlying3⟩, ⟨_, rfl, rfl, by kernel_rfl, Try.underlying9⟩, ⟨_, rfl, rfl, by kernel_rfl, Try.underlying9⟩, ⟨_, rfl, rfl, by kernel_rfl, Try.underlying3⟩, trivial⟩⟩⟩, ⟨_, rfl, rfl, by kernel_rfl, Try.underlying3⟩, ⟨_, rfl, rfl, by kernel_rfl, Try.underlying3⟩⟩⟩
set_option maxRecDepth 100000 in
theorem run {H : Type} {enc : TypeId × Value → H} (W : World) (base : Nat) (args : Array Value) (ds : List (DataW H)) (p : List MemPlace) (hval : ∀ (j : Nat) t v, Try.f3.params[j]? = some t → args[j]? = some v → Value.okWide Try.prog W .any base t v) (hopen : W.ShapedOpen Try.prog)
   (hA : DataW.TrodAll enc Try.prog W 0 (fun _ => true) true Try.f3.params.toList args.toList ds p) : Calls Try.prog 3 args W fun e w' => e = .returned (.bool true) ∧ Below W.heap.size W w' := by
 rw [Try.params3] at hA hval
 obtain ⟨v0, vs0, d0, ds0, p0, q0, hargs, rfl, rfl, h0, r0⟩ := trodAll_cons hA
 obtain ⟨rfl, rfl, rfl⟩ := trodAll_nil r0
 obtain rfl : args = #[v0] := by cases args; simp_all
 obtain ⟨h, s1, s2⟩ := Go.Ev.start W
 have s : Go.Ev.Start W h := ⟨s1, s2⟩
 obtain ⟨x0, y0, z0, rfl⟩ := okWide_slice Try.underlying22 (hval 0 22 v0 rfl rfl)
 obtain ⟨fu0, hfu0⟩ := h0
 obtain ⟨fs0, F0⟩ := isR0
 obtain ⟨u0, L0, e0, m0, l0, _⟩ := eds_of s (heap_pos hopen) Try.underlying22 F0 hfu0
 obtain rfl := (List.cons.inj (show [Value.slice x0 y0 z0] = [u0] from e0)).1
 exact calls_true s (vs := [absV W (.slice x0 y0 z0)]) ⟨absV_rel W _, trivial⟩ (sheetPlays_l m0 l0 s1.flo)
set_option maxRecDepth 100000 in
theorem lifted (os : Os) (started : os.Started) (H : Type) (enc : TypeId × Value → H) :
   ReturnsInHanded {} Try.checked os 3 .any (Rows.sheetPlaysSpec.pre6 enc Try.prog Try.f3 Rows.sheetPlaysRow.domain false) (Rows.sheetPlaysSpec.post enc Try.prog Try.f3 false true false false) :=
 law_lifted (C := Try.checked) own started (by kernel_rfl) Try.func3
   (ChangeSpec.witness6 (enc := enc) (C := Try.checked) false ⟨#[], #[.slice none 0 0], []⟩ 8 (by kernel_rfl) (by kernel_rfl) (by kernel_rfl) (by kernel_rfl))
   rfl (fun ds hd => by rw [Try.params3] at hd; match ds, hd with | [d1], _ => rfl) laid (by kernel_rfl) (by kernel_rfl) Try.underlying4 (fun W base args ds p hv ho hA => run W base args ds p hv ho hA)
theorem over : Rows.sheetPlaysRow.holds Try.pinned (OpenSpec.ofChange Rows.sheetPlaysSpec) :=
 OpenClaim.holds_of_wide 3 Try.f3 rfl rfl rfl rfl rfl rfl rfl ⟨rfl, rfl, rfl, rfl, rfl⟩ rfl rfl rfl rfl rfl (by kernel_rfl) Try.func3 (by kernel_rfl)
   (of_decide_eq_true (by kernel_rfl)) (by unfold Func.isWrapper; first | (rw [if_pos (by decide +kernel)]; kernel_rfl) | (rw [if_neg (by decide +kernel)]; exact ⟨rfl, rfl⟩))
   (fun os started H enc _ => lifted os started H enc)
theorem proved : Rows.SheetPlaysSaid :=
 over
end Go.Proofs.Ytclpemggclmgeaa.sheetPlays
