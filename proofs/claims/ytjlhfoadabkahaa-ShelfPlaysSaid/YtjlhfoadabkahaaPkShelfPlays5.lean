/- Texts of ours, without what this claim does not use: NRf2 NRf3 NRf4 NRf5 NRf6 NShR NShS NShT NShW JrNm NShZ NShX JrAl NShAl NShTx JrCp JrCl NShClo NShCp Wt Wu NBack JrCr NShCr Wv. No condition. -/
import Derived.Test.YtjlhfoadabkahaaPkShelfPlays4
import Derived.Test.YtjlhfoadabkahaaProg
import Derived.KernelRfl
import Derived.Sort.Walk0
import Derived.RangeFuncNested
import Derived.CallsIn
import Derived.RangeFuncBox
import Derived.RangeFuncLeaves
import Derived.Shelf.Abstract
import Derived.WalkKit
import Derived.OwnWalkIn
import Derived.TacticsInMore
import Derived.LoopNIn
import Derived.LoopIn
set_option maxRecDepth 100000
set_option maxHeartbeats 8000000
set_option linter.all false
namespace Go.Proofs.Ytjlhfoadabkahaa
open Go Go.Ev
section
variable {h : H}
theorem ss_re {α : Type} {n : Nat} {c : α → List V} {v : V} {L : List α} (a : Ss n c h v L) : Ss n c (reFloor h) v L := by cases h; exact a
theorem ss_un {α : Type} {n : Nat} {c : α → List V} {v : V} {L : List α} {h0 : H} (a : Ss n c h v L) : Ss n c (unFloor h0 h) v L := by cases h; cases h0; exact a
theorem CL.mkU {P : Program} {f : FuncId} {vs : List V} {m : Nat} {l : List CO} {t : F} {K : F → H → Prop} {Q : V → H → Prop} (a : FnOk P f vs (reFloor h) Q) (k : ∀ v h', Q v h' → DO P l (put m v t) (unFloor h h') K) : CL P f vs (reFloor h) (.u m l t h K) := ⟨_, a, fun v h' hq => by rw [go_u]; exact k v h' hq⟩
theorem rused_ok {r : B} {f : Nat} {vL vK vA : V} {most : Int} {L : List Fi} (o : Row h r 0 0 [vL, vK, vA, .i .i64 most]) (hf : 4 ≤ f) (hL : FiM h vL L) (hl : L.length ≤ 1000000) (hu : usedR L ≤ 9223372036854775807) :
   FnOk Try.prog 60 [.p r 0 0 f] h fun y h' => y = .i .i64 (usedR L : Int) ∧ h' = h := by
 refine fn_go c60 (by intro hb; cases hb) (by simp) (by simp) fun Q hQ => ?_
 simp only [slotsF, Nat.reduceAdd]
 repeat' (first
   | refine St.h ?_
   | simp (disch := first | omega | (simp only [lnv]; omega)) only [wlk, ↓get_put', ↓reduceIte, seval]
   | (with_reducible (first | apply cd_split | apply gd_split)) <;> (intro hc; (try simp only [hcn] at hc); (try simp only [hc]); (try simp only [hcl] at hc); try omega))
 refine Ok.lp (fun m t g => ∃ i : Nat, m = L.length - i ∧ i ≤ L.length ∧ h = g ∧ get 0 t = .p r 0 0 f ∧ get 3 t = .i .i64 (usedR (L.take i) : Int) ∧ get 4 t = .i .i64 (i : Int)) L.length ?_ ?_
 · simp (disch := first | omega | (simp only [lnv]; omega)) only [wlk, ↓get_put', ↓reduceIte, seval]
   exact ⟨0, by omega, by omega, trivial, trivial, rfl, rfl⟩
 rintro I hI m t g ⟨i, rfl, hi, rfl, e0, e3, e4⟩
 have hus := fun h => usedR_take (L := L) (i := i) h
 have hle := usedR_le L (i + 1)
 repeat' (first
   | refine St.h ?_
   | simp (disch := first | omega | (simp only [lnv]; omega)) only [wlk, ↓get_put', ↓reduceIte, seval, e0, e3, e4, o.l1, hL.ln, hL.ix, fi_l1 hL, Int.toNat_natCast]
   | (with_reducible (first | apply cd_split | apply gd_split)) <;> (intro hc; (try simp only [hcn] at hc); (try simp only [hc]); (try simp only [hcl] at hc); try omega))
 · rw [hus (by omega)] at hle
   repeat' (first
     | refine St.h ?_
     | simp (disch := first | omega | (simp only [lnv]; omega)) only [wlk, ↓get_put', ↓reduceIte, seval, e0, e3, e4, o.l1, hL.ln, hL.ix, fi_l1 hL, Int.toNat_natCast]
     | (with_reducible (first | apply cd_split | apply gd_split)) <;> (intro hc; (try simp only [hcn] at hc); (try simp only [hc]); (try simp only [hcl] at hc); try omega))
   refine lp_next hI (L.length - (i + 1)) (by omega) ⟨i + 1, rfl, by omega, rfl, by simp (disch := first | omega | (simp only [lnv]; omega)) only [wlk, ↓get_put', ↓reduceIte, seval, e0], ?_, by simp (disch := first | omega | (simp only [lnv]; omega)) only [wlk, ↓get_put', ↓reduceIte, seval, e4]; rfl⟩
   rw [hus (by omega)]
   simp (disch := first | omega | (simp only [lnv]; omega)) only [wlk, ↓get_put', ↓reduceIte, seval]
   rfl
 · obtain rfl : i = L.length := by omega
   repeat' (first
     | refine St.h ?_
     | simp (disch := first | omega | (simp only [lnv]; omega)) only [wlk, ↓get_put', ↓reduceIte, seval, e3]
     | (with_reducible (first | apply cd_split | apply gd_split)) <;> (intro hc; (try simp only [hcn] at hc); (try simp only [hc]); (try simp only [hcl] at hc); try omega))
   subst hQ
   exact ⟨by rw [List.take_length], rfl⟩
theorem rleft_ok {r : B} {f : Nat} {vL vK vA : V} {most : Int} {L : List Fi} (o : Row h r 0 0 [vL, vK, vA, .i .i64 most]) (hf : 4 ≤ f) (hL : FiM h vL L) (hl : L.length ≤ 1000000) (hu : usedR L ≤ 9223372036854775807) (h0 : 0 ≤ most) (h1 : most ≤ 1000000) :
   FnOk Try.prog 53 [.p r 0 0 f] h fun y h' => y = .i .i64 (max 0 (most - (usedR L : Int))) ∧ h' = h := by
 refine fn_go c53 (by intro hb; cases hb) (by simp) (by simp) fun Q hQ => ?_
 simp only [slotsF, Nat.reduceAdd]
 repeat' (first
   | refine St.h ?_
   | simp (disch := first | omega | (simp only [lnv]; omega)) only [wlk, ↓get_put', ↓reduceIte, seval, o.l1]
   | (with_reducible (first | apply cd_split | apply gd_split)) <;> (intro hc; (try simp only [hcn] at hc); (try simp only [hc]); (try simp only [hcl] at hc); try omega))
 refine CL.pure (rused_ok (row_re o) hf (ss_re hL) hl hu) ?_
 repeat' (first
   | refine St.h ?_
   | simp (disch := first | omega | (simp only [lnv]; omega)) only [wlk, ↓get_put', ↓reduceIte, seval, o.l1]
   | (with_reducible (first | apply cd_split | apply gd_split)) <;> (intro hc; (try simp only [hcn] at hc); (try simp only [hc]); (try simp only [hcl] at hc); try omega))
 subst hQ
 exact ⟨rfl, rfl⟩
theorem rdone_ok {v : V} {L : List Fi} {a : DA} (hL : FiM h v L) (hl : L.length ≤ 1000) (hm : mayR L a) (hf : B.val h.floor ≤ B.val h.next) : FnOk Try.prog 57 [v, .a (dC a)] h fun y h' => FiM h' y (doneR L a) ∧ Stay nowhere h h' ∧ ∀ q, isOf y q → isOf v q ∨ B.val h.next ≤ B.val q := by
 unfold dC
 refine fn_go c57 (by intro hb; cases hb) (by simp) (by simp) fun Q hQ => ?_
 simp only [slotsF, Nat.reduceAdd]
 repeat' (first
   | refine St.h ?_
   | simp (disch := first | omega | (simp only [lnv]; omega)) only [wlk, ↓get_put', ↓reduceIte, seval]
   | (with_reducible (first | apply cd_split | apply gd_split)) <;> (intro hc; (try simp only [hcn] at hc); (try simp only [hc]); (try simp only [hcl] at hc); try omega))
 refine AL.own (by simp) hf fun h1 s1 n1 o1 => ?_
 have hf1 := s1.fl hf
 have hL1 := hL.grow s1
 have nx1 := s1.next
 repeat' (first
   | refine St.h ?_
   | simp (disch := first | omega | (simp only [lnv]; omega)) only [wlk, ↓get_put', ↓reduceIte, seval, o1.row.l1]
   | (with_reducible (first | apply cd_split | apply gd_split)) <;> (intro hc; (try simp only [hcn] at hc); (try simp only [hc]); (try simp only [hcl] at hc); try omega))
 refine CL.pure (rfind_ok (k := a.name) hL1 (by omega)) ?_
 by_cases k1 : a.kind = 1
 · have e : doneR L a = withR L (a.name, a.b) := by unfold doneR; rw [if_pos k1]
   repeat' (first
     | refine St.h ?_
     | simp (disch := first | omega | (simp only [lnv]; omega)) only [wlk, ↓get_put', ↓reduceIte, seval, o1.row.l1, k1]
     | (with_reducible (first | apply cd_split | apply gd_split)) <;> (intro hc; (try simp only [hcn] at hc); (try simp only [hc]); (try simp only [hcl] at hc); try omega))
   refine CL.mk (rwith_ok (f := (a.name, a.b)) hL1 hl hf1) ?_
   rintro w h2 ⟨hW, s2, ho⟩
   repeat' (first
     | refine St.h ?_
     | simp (disch := first | omega | (simp only [lnv]; omega)) only [wlk, ↓get_put', ↓reduceIte, seval]
     | (with_reducible (first | apply cd_split | apply gd_split)) <;> (intro hc; (try simp only [hcn] at hc); (try simp only [hc]); (try simp only [hcl] at hc); try omega))
   subst hQ
   rw [e]
   exact ⟨hW, s1.trans s2, fun q hq => .inr (by have := ho q hq; omega)⟩
 have d1 : decide (a.kind = 1) = false := decide_eq_false k1
 by_cases k2 : a.kind = 2
 · obtain ⟨b0, hb, hbl⟩ := hm (.inl k2)
   have hbl := hbl k2
   have e : doneR L a = withR L (a.name, b0 ++ a.b) := by unfold doneR; rw [if_neg k1, if_pos k2, hb]; rfl
   rcases find_look (L := L) (k := a.name) with ⟨_, q⟩ | ⟨i, q1, q2, q3, q4⟩
   · rw [q] at hb; cases hb
   have hbe : (L.getD i default).2 = b0 := by rw [q4] at hb; exact Option.some.inj hb
   have k12 : decide ((2 : Int) = 1) = false := rfl
   repeat' (first
     | refine St.h ?_
     | simp (disch := first | omega | (simp only [lnv]; omega)) only [wlk, ↓get_put', ↓reduceIte, seval, o1.row.l1, k2, k12, q1, hL.ix, fi_l1 hL1, hbe, Int.toNat_natCast]
     | (with_reducible (first | apply cd_split | apply gd_split)) <;> (intro hc; (try simp only [hcn] at hc); (try simp only [hc]); (try simp only [hcl] at hc); try omega))
   refine CL.mk (rwith_ok (f := (a.name, b0 ++ a.b)) hL1 hl hf1) ?_
   rintro w h2 ⟨hW, s2, ho⟩
   repeat' (first
     | refine St.h ?_
     | simp (disch := first | omega | (simp only [lnv]; omega)) only [wlk, ↓get_put', ↓reduceIte, seval]
     | (with_reducible (first | apply cd_split | apply gd_split)) <;> (intro hc; (try simp only [hcn] at hc); (try simp only [hc]); (try simp only [hcl] at hc); try omega))
   subst hQ
   rw [e]
   exact ⟨hW, s1.trans s2, fun q hq => .inr (by have := ho q hq; omega)⟩
 have d2 : decide (a.kind = 2) = false := decide_eq_false k2
 by_cases k3 : a.kind = 3
 · by_cases hn : a.name = a.b
   · have e : doneR L a = L := by unfold doneR; rw [if_neg k1, if_neg k2, if_pos k3, if_pos hn]
     have hd := decide_eq_true hn
     repeat' (first
       | refine St.h ?_
       | simp (disch := first | omega | (simp only [lnv]; omega)) only [wlk, ↓get_put', ↓reduceIte, seval, o1.row.l1, d1, d2, k3, hd]
       | (with_reducible (first | apply cd_split | apply gd_split)) <;> (intro hc; (try simp only [hcn] at hc); (try simp only [hc]); (try simp only [hcl] at hc); try omega))
     subst hQ
     rw [e]
     exact ⟨hL1, s1, fun q hq => .inl hq⟩
   · obtain ⟨b0, hb, _⟩ := hm (.inr ⟨k3, hn⟩)
     have e : doneR L a = withR (wioR L a.name) (a.b, b0) := by unfold doneR; rw [if_neg k1, if_neg k2, if_pos k3, if_neg hn, hb]; rfl
     have hd := decide_eq_false hn
     rcases find_look (L := L) (k := a.name) with ⟨_, q⟩ | ⟨i, q1, q2, q3, q4⟩
     · rw [q] at hb; cases hb
     have hbe : (L.getD i default).2 = b0 := by rw [q4] at hb; exact Option.some.inj hb
     have hwl : (wioR L a.name).length ≤ 1000 := Nat.le_trans (List.length_filter_le _ _) hl
     repeat' (first
       | refine St.h ?_
       | simp (disch := first | omega | (simp only [lnv]; omega)) only [wlk, ↓get_put', ↓reduceIte, seval, o1.row.l1, d1, d2, k3, hd]
       | (with_reducible (first | apply cd_split | apply gd_split)) <;> (intro hc; (try simp only [hcn] at hc); (try simp only [hc]); (try simp only [hcl] at hc); try omega))
     refine CL.mkU (rwithout_ok (k := a.name) (ss_re hL1) hl (re_fl _)) ?_
     rintro w h2' ⟨hW, s2, _⟩
     have s2 := s2.unfloor
     have hW := ss_un (h0 := h1) hW
     generalize unFloor h1 h2' = h2 at *
     have o2 := o1.stay s2 fun h => h
     have hL2 := hL1.grow s2
     have hf2 := s2.fl hf1
     repeat' (first
       | refine St.h ?_
       | simp (disch := first | omega | (simp only [lnv]; omega)) only [wlk, ↓get_put', ↓reduceIte, seval, o2.row.l1, q1, hL2.ix, fi_l1 hL2, hbe, Int.toNat_natCast]
       | (with_reducible (first | apply cd_split | apply gd_split)) <;> (intro hc; (try simp only [hcn] at hc); (try simp only [hc]); (try simp only [hcl] at hc); try omega))
     refine CL.mk (rwith_ok (f := (a.b, b0)) hW hwl hf2) ?_
     rintro u h3 ⟨hU, s3, ho⟩
     repeat' (first
       | refine St.h ?_
       | simp (disch := first | omega | (simp only [lnv]; omega)) only [wlk, ↓get_put', ↓reduceIte, seval]
       | (with_reducible (first | apply cd_split | apply gd_split)) <;> (intro hc; (try simp only [hcn] at hc); (try simp only [hc]); (try simp only [hcl] at hc); try omega))
     subst hQ
     rw [e]
     exact ⟨hU, (s1.trans s2).trans s3, fun q hq => .inr (by have := ho q hq; have := s2.next; omega)⟩
 · have e : doneR L a = wioR L a.name := by unfold doneR; rw [if_neg k1, if_neg k2, if_neg k3]
   have d3 := decide_eq_false k3
   repeat' (first
     | refine St.h ?_
     | simp (disch := first | omega | (simp only [lnv]; omega)) only [wlk, ↓get_put', ↓reduceIte, seval, o1.row.l1, d1, d2, d3]
     | (with_reducible (first | apply cd_split | apply gd_split)) <;> (intro hc; (try simp only [hcn] at hc); (try simp only [hc]); (try simp only [hcl] at hc); try omega))
   refine CL.mk (rwithout_ok (k := a.name) hL1 hl hf1) ?_
   rintro w h2 ⟨hW, s2, ho⟩
   repeat' (first
     | refine St.h ?_
     | simp (disch := first | omega | (simp only [lnv]; omega)) only [wlk, ↓get_put', ↓reduceIte, seval]
     | (with_reducible (first | apply cd_split | apply gd_split)) <;> (intro hc; (try simp only [hcn] at hc); (try simp only [hc]); (try simp only [hcl] at hc); try omega))
   subst hQ
   rw [e]
   exact ⟨hW, s1.trans s2, fun q hq => .inr (by have := ho q hq; omega)⟩
structure DS where
 L : List Fi
 K : List Fi
 A : List DA
 most : Int
structure RfS (h : H) (r : B) (vL vK vA : V) (D : DS) : Prop where
 own : Ev.Own h r [vL, vK, vA, .i .i64 D.most]
 l : FiM h vL D.L
 k : FiM h vK D.K
 a : Ss 3 dC h vA D.A
 lr : ¬ isOf vL r
 kr : ¬ isOf vK r
 ar : ¬ isOf vA r
def fpR (r : B) (vL vK vA : V) : B → Prop := fun q => q = r ∨ isOf vL q ∨ isOf vK q ∨ isOf vA q
theorem ss_lt {α : Type} {n : Nat} {c : α → List V} {v : V} {L : List α} (a : Ss n c h v L) {q : B} (hq : isOf v q) : B.val q < B.val h.next := by
 obtain ⟨g, off, m, fin, cap, e⟩ := hq
 rcases a with ⟨rfl, _⟩ | ⟨id, g', off', fin', cap', rfl, _, h3, _⟩
 · cases e
 · cases e; exact h3
theorem RfS.lt {r : B} {vL vK vA : V} {D : DS} (a : RfS h r vL vK vA D) {q : B} (hq : fpR r vL vK vA q) : B.val q < B.val h.next := by
 rcases hq with e | e | e | e
 · rw [e]; obtain ⟨_, _, _, _, _, _, h6, _⟩ := a.own; exact h6
 · exact ss_lt a.l e
 · exact ss_lt a.k e
 · exact ss_lt a.a e
theorem RfS.stay {p : B → Prop} {h' : H} {r : B} {vL vK vA : V} {D : DS} (a : RfS h r vL vK vA D) (s : Stay p h h') (hp : ∀ q, fpR r vL vK vA q → ¬ p q) : RfS h' r vL vK vA D :=
 ⟨a.own.stay s (hp r (.inl rfl)), a.l.stay s fun q e => hp q (.inr (.inl e)), a.k.stay s fun q e => hp q (.inr (.inr (.inl e))), a.a.stay s fun q e => hp q (.inr (.inr (.inr e))), a.lr, a.kr, a.ar⟩
theorem sl_one {α : Type} {n : Nat} {c : α → List V} {v : V} {L : List α} (a : Ss n c h v L) : cells v = [v] ∧ oneV v = true := by
 rcases a with ⟨rfl, _⟩ | ⟨id, g', off', fin', cap', rfl, _⟩ <;> exact ⟨rfl, rfl⟩
theorem allOne_dC : ∀ L : List DA, allOne (L.flatMap dC) = true
 | [] => rfl
 | a :: L => allOne_dC L
theorem buf_un {h0 h' : H} {el size : Nat} {v : V} {xs : List V} (b : Buf h' el size v xs) (e : h'.floor = h0.next) (hf : B.val h0.floor ≤ B.val h0.next) : Buf (unFloor h0 h') el size v xs := by
 rcases b with ⟨rfl, rfl⟩ | ⟨id, g, n, blk, rfl, h1, h2, h3, h4⟩
 · exact .inl ⟨rfl, rfl⟩
 · cases h0; cases h'
   exact .inr ⟨id, g, n, blk, rfl, h1, h2, Nat.le_trans hf (by simp only at e; rw [← e]; exact h3), h4⟩
theorem rdo_ok {r : B} {vL vK vA : V} {D : DS} {a : DA} (S : RfS h r vL vK vA D) (hl : D.L.length ≤ 1000) (hla : D.A.length ≤ 1000) (hm : mayR D.L a) (hf : B.val h.floor ≤ B.val h.next) :
   FnOk Try.prog 54 [.p r 0 0 4, .a (dC a)] h fun y h' => y = .tu [] ∧ ∃ uL uA, RfS h' r uL vK uA { D with L := doneR D.L a, A := D.A ++ [a] } ∧ Stay (fun i => i = r) h h' ∧ ∀ q, fpR r uL vK uA q → fpR r vL vK vA q ∨ B.val h.next ≤ B.val q := by
 have hdc : (dC a).length = 3 := rfl
 refine fn_go c54 (by intro hb; cases hb) (by simp) (by simp) fun Q hQ => ?_
 simp only [slotsF, Nat.reduceAdd]
 repeat' (first
   | refine St.h ?_
   | simp (disch := first | omega | (simp only [lnv]; omega)) only [wlk, ↓get_put', ↓reduceIte, seval]
   | (with_reducible (first | apply cd_split | apply gd_split)) <;> (intro hc; (try simp only [hcn] at hc); (try simp only [hc]); (try simp only [hcl] at hc); try omega))
 refine AL.own (by simp [dC]) hf fun h1 s1 n1 o1 => ?_
 have hf1 := s1.fl hf
 have S1 := S.stay s1 fun _ _ h => h
 have o1 : Ev.Own h1 h.next [.i .i64 a.kind, sv a.name, sv a.b] := o1
 repeat' (first
   | refine St.h ?_
   | simp (disch := first | omega | (simp only [lnv]; omega)) only [wlk, ↓get_put', ↓reduceIte, seval, S1.own.row.l1, o1.row.ln, hdc]
   | (with_reducible (first | apply cd_split | apply gd_split)) <;> (intro hc; (try simp only [hcn] at hc); (try simp only [hc]); (try simp only [hcl] at hc); try omega))
 refine CL.mk (rdone_ok S1.l hl hm hf1) ?_
 rintro uL h2 ⟨hU, s2, ho⟩
 have S2 := S1.stay s2 fun _ _ h => h
 have o2 := o1.stay s2 fun h => h
 have hf2 := s2.fl hf1
 have nr : B.val r < B.val h.next := S.lt (.inl rfl)
 have nx1 := s1.next
 have nx2 := s2.next
 repeat' (first
   | refine St.h ?_
   | simp (disch := first | omega | (simp only [lnv]; omega)) only [wlk, ↓get_put', ↓reduceIte, seval, S2.own.row.l1]
   | (with_reducible (first | apply cd_split | apply gd_split)) <;> (intro hc; (try simp only [hcn] at hc); (try simp only [hc]); (try simp only [hcl] at hc); try omega))
 have huL : ¬ isOf uL r := fun e => (ho r e).elim S.lr fun e => by omega
 refine ST.own S2.own (sl_one hU).1 (sl_one hU).2 (by omega) (by omega) fun h3 o3 s3 => ?_
 have hU3 := hU.stay s3 fun q hq e => huL (by rw [← e]; exact hq)
 have hK3 := S2.k.stay s3 fun q hq e => S.kr (by rw [← e]; exact hq)
 have hA3 := S2.a.stay s3 fun q hq e => S.ar (by rw [← e]; exact hq)
 have o3 : Ev.Own h3 r [uL, vK, vA, .i .i64 D.most] := o3
 have ob3 := o2.stay s3 fun e => by rw [← e] at nr; exact absurd nr (Nat.lt_irrefl _)
 have hf3 := s3.fl hf2
 have nx3 := s3.next
 repeat' (first
   | refine St.h ?_
   | simp (disch := first | omega | (simp only [lnv]; omega)) only [wlk, ↓get_put', ↓reduceIte, seval, o3.row.l1]
   | (with_reducible (first | apply cd_split | apply gd_split)) <;> (intro hc; (try simp only [hcn] at hc); (try simp only [hc]); (try simp only [hcl] at hc); try omega))
 refine AP.buf (h := reFloor h3) (vs := D.A.flatMap dC) (cnt := D.A.length) (Buf.nil _ _ _) (new_ss (ss_re hA3) dC_len (by omega)) (re_fl _) (by omega) (by rw [fm_len dC_len]) (allOne_dC _) (by rw [fm_len dC_len]; simp; omega) fun u1 h4' b4 s4 hu4 tp4 => ?_
 have fl4 : h4'.floor = h3.next := by rw [s4.floor, reFloor_floor]
 have ho4 : ∀ q, isOf u1 q → B.val h3.next ≤ B.val q := fun q hq => (hu4 q hq).elim (fun ⟨_, _, _, _, _, e⟩ => by cases e) fun e => by rwa [reFloor_next] at e
 have s4 : Stay nowhere h3 (unFloor h3 h4') := (s4.mono fun q _ ⟨_, _, _, _, _, e⟩ => by cases e).unfloor
 have b4 := buf_un b4 fl4 hf3
 rw [go_u]
 generalize unFloor h3 h4' = h4 at *
 have o4 := o3.stay s4 fun h => h
 have ob4 := ob3.stay s4 fun h => h
 have hf4 := s4.fl hf3
 have nx4 := s4.next
 repeat' (first
   | refine St.h ?_
   | simp (disch := first | omega | (simp only [lnv]; omega)) only [wlk, ↓get_put', ↓reduceIte, seval, o4.row.l1, ob4.row.ln]
   | (with_reducible (first | apply cd_split | apply gd_split)) <;> (intro hc; (try simp only [hcn] at hc); (try simp only [hc]); (try simp only [hcl] at hc); try omega))
 refine AL.ownU (by simp) hf4 fun h5 s5 o5 => ?_
 have oc := o4.stay s5 fun h => h
 have hf5 := s5.fl hf4
 have nx5 := s5.next
 repeat' (first
   | refine St.h ?_
   | simp (disch := first | omega | (simp only [lnv]; omega)) only [wlk, ↓get_put', ↓reduceIte, seval, oc.row.l1]
   | (with_reducible (first | apply cd_split | apply gd_split)) <;> (intro hc; (try simp only [hcn] at hc); (try simp only [hc]); (try simp only [hcl] at hc); try omega))
 refine AP.buf (vs := dC a) (cnt := 1) (b4.grow s5) (new_row o5.row rfl (Nat.le_refl _) (by omega) (by show 3 ≤ 3; omega)) hf5 (by omega) rfl rfl (by simp [fm_len dC_len, dC]; omega) fun uA h6 b6 s6 hu6 tp6 => ?_
 have hu1r : ∀ q, isOf u1 q → B.val h.next ≤ B.val q := fun q hq => by have := ho4 q hq; omega
 have od := oc.stay s6 fun e => by have := hu1r r e; omega
 have hoA : ∀ q, isOf uA q → B.val h.next ≤ B.val q := fun q hq => (hu6 q hq).elim (fun e => hu1r q e) fun e => by omega
 repeat' (first
   | refine St.h ?_
   | simp (disch := first | omega | (simp only [lnv]; omega)) only [wlk, ↓get_put', ↓reduceIte, seval, od.row.l1]
   | (with_reducible (first | apply cd_split | apply gd_split)) <;> (intro hc; (try simp only [hcn] at hc); (try simp only [hc]); (try simp only [hcl] at hc); try omega))
 refine ST.own od (buf_cells b6).1 (buf_cells b6).2 (by omega) (by omega) fun h7 o7 s7 => ?_
 repeat' (first
   | refine St.h ?_
   | simp (disch := first | omega | (simp only [lnv]; omega)) only [wlk, ↓get_put', ↓reduceIte, seval]
   | (with_reducible (first | apply cd_split | apply gd_split)) <;> (intro hc; (try simp only [hcn] at hc); (try simp only [hc]); (try simp only [hcl] at hc); try omega))
 subst hQ
 have hAr : ¬ isOf uA r := fun e => by have := hoA r e; omega
 have old : ∀ q, B.val q < B.val h3.next → ¬ isOf u1 q := fun q hq e => by have := ho4 q e; omega
 have t35 : Stay nowhere h3 h5 := s4.trans s5
 have S6 : ∀ {v : V} {L : List Fi}, FiM h3 v L → ¬ isOf v r → FiM h7 v L := fun hv hr => by
   have h5' := hv.grow t35
   have h6' := h5'.stay s6 fun q hq => old q (ss_lt hv hq)
   exact h6'.stay s7 fun q hq e => hr (by rw [← e]; exact hq)
 refine ⟨rfl, uL, uA, ⟨o7, S6 hU3 huL, S6 hK3 S.kr, ?_, huL, S.kr, hAr⟩, ?_, ?_⟩
 · have := (Ss.buf (c := dC) (L := D.A ++ [a]) b6 (by rw [List.flatMap_append]; simp) dC_len (by omega)).stay s7 fun q hq e => hAr (by rw [← e]; exact hq)
   exact this
 · have t2 : Stay (fun i => i = r) h h3 := ((s1.trans s2).mono fun _ _ e => e.elim).trans s3
   have t5 := t2.trans (t35.mono fun _ _ e => e.elim)
   have t6 : Stay (fun i => i = r ∨ isOf u1 i) h h6 := (t5.mono fun _ _ e => .inl e).trans (s6.mono fun _ _ e => .inr e)
   have t6' : Stay (fun i => i = r) h h6 := t6.mono fun i hi e => e.elim (fun e => e) fun e => by have := hu1r i e; omega
   exact t6'.trans s7
 · rintro q (e | e | e | e)
   · exact .inl (.inl e)
   · rcases ho q e with e | e
     · exact .inl (.inr (.inl e))
     · exact .inr (by omega)
   · exact .inl (.inr (.inr (.inl e)))
   · exact .inr (hoA q e)
end
end Go.Proofs.Ytjlhfoadabkahaa

set_option maxRecDepth 100000
set_option maxHeartbeats 8000000
set_option linter.all false
namespace Go.Proofs.Ytjlhfoadabkahaa
open Go Go.Ev
section
variable {h : H} {r : B} {vL vK vA : V} {D : DS}
def doD (D : DS) (a : DA) : DS := { D with L := doneR D.L a, A := D.A ++ [a] }
def AftR (h h' : H) (r : B) (vL vK vA : V) (D' : DS) : Prop := ∃ uL uK uA, RfS h' r uL uK uA D' ∧ Stay (fun i => i = r) h h' ∧ ∀ q, fpR r uL uK uA q → fpR r vL vK vA q ∨ B.val h.next ≤ B.val q
theorem AftR.same (S : RfS h r vL vK vA D) : AftR h h r vL vK vA D := ⟨_, _, _, S, Stay.refl _ _, fun q hq => .inl hq⟩
theorem find_lt {L : List Fi} {k : List UInt8} : (findR L k < 0) = (lookR L k = none) := by
 rcases find_look (L := L) (k := k) with ⟨h1, h2⟩ | ⟨i, h1, _, _, h2⟩
 · rw [h1, h2]; simp
 · rw [h1, h2]; simp
theorem find_ge {L : List Fi} {k : List UInt8} : (0 ≤ findR L k) = (lookR L k ≠ none) := by
 rcases find_look (L := L) (k := k) with ⟨h1, h2⟩ | ⟨i, h1, _, _, h2⟩
 · rw [h1, h2]; simp
 · rw [h1, h2]; simp
theorem rnew_ok (n : Int) (hf : B.val h.floor ≤ B.val h.next) : FnOk Try.prog 15 [.i .i64 n] h fun y h' => y = .p h.next 0 0 4 ∧ RfS h' h.next .l0 .l0 .l0 ⟨[], [], [], max 0 (min n 1000000)⟩ ∧ Stay nowhere h h' ∧ ∀ q, fpR h.next .l0 .l0 .l0 q → B.val h.next ≤ B.val q := by
 have no : ∀ q, ¬ isOf .l0 q := fun q ⟨_, _, _, _, _, e⟩ => by cases e
 refine fn_go c15 (by intro hb; cases hb) (by simp) (by simp) fun Q hQ => ?_
 simp only [slotsF, Nat.reduceAdd]
 repeat' (first
   | refine St.h ?_
   | simp (disch := first | omega | (simp only [lnv]; omega)) only [wlk, ↓get_put', ↓reduceIte, seval]
   | (with_reducible (first | apply cd_split | apply gd_split)) <;> (intro hc; (try simp only [hcn] at hc); (try simp only [hc]); (try simp only [hcl] at hc); try omega))
 refine AL.own (by simp) hf fun h1 s1 n1 o1 => ?_
 repeat' (first
   | refine St.h ?_
   | simp (disch := first | omega | (simp only [lnv]; omega)) only [wlk, ↓get_put', ↓reduceIte, seval]
   | (with_reducible (first | apply cd_split | apply gd_split)) <;> (intro hc; (try simp only [hcn] at hc); (try simp only [hc]); (try simp only [hcl] at hc); try omega))
 subst hQ
 refine ⟨rfl, ⟨o1, .inl ⟨rfl, rfl⟩, .inl ⟨rfl, rfl⟩, .inl ⟨rfl, rfl⟩, no _, no _, no _⟩, s1, ?_⟩
 rintro q (e | e | e | e)
 · rw [e]; exact Nat.le_refl _
 · exact absurd e (no q)
 · exact absurd e (no q)
 · exact absurd e (no q)
def putE (D : DS) (f b : List UInt8) : Int := if nameP f = false then 10 else if lookR D.L f ≠ none then 14 else if 60 ≤ D.L.length ∨ max 0 (D.most - (usedR D.L : Int)) < (b.length : Int) then 15 else 0
theorem rput_ok {f b : List UInt8} (S : RfS h r vL vK vA D) (hl : D.L.length ≤ 1000) (hla : D.A.length ≤ 1000) (hu : usedR D.L ≤ 9223372036854775807) (h0 : 0 ≤ D.most) (h1 : D.most ≤ 1000000) (hfl : f.length ≤ 9223372036854775807) (hbl : b.length ≤ 9223372036854775807) (hf : B.val h.floor ≤ B.val h.next) :
   FnOk Try.prog 17 [.p r 0 0 4, sv f, sv b] h fun y h' => y = .i .i64 (putE D f b) ∧ AftR h h' r vL vK vA (if putE D f b = 0 then doD D ⟨1, f, b⟩ else D) := by
 refine fn_go c17 (by intro hb; cases hb) (by simp) (by simp) fun Q hQ => ?_
 simp only [slotsF, Nat.reduceAdd]
 repeat' (first
   | refine St.h ?_
   | simp (disch := first | omega | (simp only [lnv]; omega)) only [wlk, ↓get_put', ↓reduceIte, seval]
   | (with_reducible (first | apply cd_split | apply gd_split)) <;> (intro hc; (try simp only [hcn] at hc); (try simp only [hc]); (try simp only [hcl] at hc); try omega))
 refine CL.pure (rname_ok hfl) ?_
 cases hn : nameP f with
 | false =>
   have e : putE D f b = 10 := by unfold putE; rw [if_pos hn]
   repeat' (first
     | refine St.h ?_
     | simp (disch := first | omega | (simp only [lnv]; omega)) only [wlk, ↓get_put', ↓reduceIte, seval]
     | (with_reducible (first | apply cd_split | apply gd_split)) <;> (intro hc; (try simp only [hcn] at hc); (try simp only [hc]); (try simp only [hcl] at hc); try omega))
   subst hQ
   exact ⟨by rw [e], by rw [e]; exact AftR.same S⟩
 | true =>
 have en : putE D f b = if lookR D.L f ≠ none then 14 else if 60 ≤ D.L.length ∨ max 0 (D.most - (usedR D.L : Int)) < (b.length : Int) then 15 else 0 := by unfold putE; rw [if_neg (by rw [hn]; decide)]
 repeat' (first
   | refine St.h ?_
   | simp (disch := first | omega | (simp only [lnv]; omega)) only [wlk, ↓get_put', ↓reduceIte, seval, S.own.row.l1]
   | (with_reducible (first | apply cd_split | apply gd_split)) <;> (intro hc; (try simp only [hcn] at hc); (try simp only [hc]); (try simp only [hcl] at hc); try omega))
 refine CL.pure (rfind_ok (k := f) S.l (by omega)) ?_
 by_cases hk : lookR D.L f = none
 · rw [if_neg (fun h => h hk)] at en
   have hd : decide (0 ≤ findR D.L f) = false := decide_eq_false (by rw [find_ge]; exact fun h => h hk)
   by_cases h60 : 60 ≤ D.L.length
   · have e : putE D f b = 15 := by rw [en, if_pos (.inl h60)]
     repeat' (first
       | refine St.h ?_
       | simp (disch := first | omega | (simp only [lnv]; omega)) only [wlk, ↓get_put', ↓reduceIte, seval, S.own.row.l1, hd, S.l.ln]
       | (with_reducible (first | apply cd_split | apply gd_split)) <;> (intro hc; (try simp only [hcn] at hc); (try simp only [hc]); (try simp only [hcl] at hc); try omega))
     subst hQ
     exact ⟨by rw [e], by rw [e]; exact AftR.same S⟩
   · by_cases hlt : max 0 (D.most - (usedR D.L : Int)) < (b.length : Int)
     · have e : putE D f b = 15 := by rw [en, if_pos (.inr hlt)]
       repeat' (first
         | refine St.h ?_
         | simp (disch := first | omega | (simp only [lnv]; omega)) only [wlk, ↓get_put', ↓reduceIte, seval, S.own.row.l1, hd, S.l.ln]
         | (with_reducible (first | apply cd_split | apply gd_split)) <;> (intro hc; (try simp only [hcn] at hc); (try simp only [hc]); (try simp only [hcl] at hc); try omega))
       refine CL.pure (rleft_ok S.own.row (by omega) S.l (by omega) hu h0 h1) ?_
       repeat' (first
         | refine St.h ?_
         | simp (disch := first | omega | (simp only [lnv]; omega)) only [wlk, ↓get_put', ↓reduceIte, seval]
         | (with_reducible (first | apply cd_split | apply gd_split)) <;> (intro hc; (try simp only [hcn] at hc); (try simp only [hc]); (try simp only [hcl] at hc); try omega))
       subst hQ
       exact ⟨by rw [e], by rw [e]; exact AftR.same S⟩
     · have e : putE D f b = 0 := by rw [en, if_neg (fun h => h.elim h60 hlt)]
       repeat' (first
         | refine St.h ?_
         | simp (disch := first | omega | (simp only [lnv]; omega)) only [wlk, ↓get_put', ↓reduceIte, seval, S.own.row.l1, hd, S.l.ln]
         | (with_reducible (first | apply cd_split | apply gd_split)) <;> (intro hc; (try simp only [hcn] at hc); (try simp only [hc]); (try simp only [hcl] at hc); try omega))
       refine CL.pure (rleft_ok S.own.row (by omega) S.l (by omega) hu h0 h1) ?_
       repeat' (first
         | refine St.h ?_
         | simp (disch := first | omega | (simp only [lnv]; omega)) only [wlk, ↓get_put', ↓reduceIte, seval]
         | (with_reducible (first | apply cd_split | apply gd_split)) <;> (intro hc; (try simp only [hcn] at hc); (try simp only [hc]); (try simp only [hcl] at hc); try omega))
       refine CL.mk (rdo_ok (a := ⟨1, f, b⟩) S hl hla (fun h => by rcases h with h | h; cases h; cases h.1) hf) ?_
       rintro y h2 ⟨rfl, uL, uA, S2, s2, fp2⟩
       repeat' (first
         | refine St.h ?_
         | simp (disch := first | omega | (simp only [lnv]; omega)) only [wlk, ↓get_put', ↓reduceIte, seval]
         | (with_reducible (first | apply cd_split | apply gd_split)) <;> (intro hc; (try simp only [hcn] at hc); (try simp only [hc]); (try simp only [hcl] at hc); try omega))
       subst hQ
       exact ⟨by rw [e], by rw [e]; exact ⟨uL, vK, uA, S2, s2, fp2⟩⟩
 · rw [if_pos hk] at en
   have hd : decide (0 ≤ findR D.L f) = true := decide_eq_true (by rw [find_ge]; exact hk)
   repeat' (first
     | refine St.h ?_
     | simp (disch := first | omega | (simp only [lnv]; omega)) only [wlk, ↓get_put', ↓reduceIte, seval, S.own.row.l1, hd]
     | (with_reducible (first | apply cd_split | apply gd_split)) <;> (intro hc; (try simp only [hcn] at hc); (try simp only [hc]); (try simp only [hcl] at hc); try omega))
   subst hQ
   exact ⟨by rw [en], by rw [en]; exact AftR.same S⟩
end
end Go.Proofs.Ytjlhfoadabkahaa

set_option maxRecDepth 100000
set_option maxHeartbeats 8000000
set_option linter.all false
namespace Go.Proofs.Ytjlhfoadabkahaa
open Go Go.Ev
section
variable {h : H} {r : B} {vL vK vA : V} {D : DS}
def addE (D : DS) (f b : List UInt8) : Int := if lookR D.L f = none then 14 else if max 0 (D.most - (usedR D.L : Int)) < (b.length : Int) then 15 else 0
def swapE (D : DS) (o f : List UInt8) : Int := if nameP f = false then 10 else if lookR D.L o = none then 14 else 0
def dropE (D : DS) (f : List UInt8) : Int := if lookR D.L f = none then 14 else 0
theorem used_look : ∀ {L : List Fi} {k b0 : List UInt8}, lookR L k = some b0 → b0.length ≤ usedR L
 | a :: r, k, b0, h => by
   rw [lookR_c] at h
   unfold usedR
   rw [List.map_cons, List.sum_cons]
   by_cases e : a.1 = k
   · rw [if_pos e] at h; rw [← Option.some.inj h]; exact Nat.le_add_right _ _
   · rw [if_neg e] at h
     have := used_look h
     unfold usedR at this
     omega
theorem radd_ok {f b : List UInt8} (S : RfS h r vL vK vA D) (hl : D.L.length ≤ 1000) (hla : D.A.length ≤ 1000) (hu : usedR D.L ≤ 1000000) (h0 : 0 ≤ D.most) (h1 : D.most ≤ 1000000) (hfl : f.length ≤ 9223372036854775807) (hbl : b.length ≤ 9223372036854775807) (hf : B.val h.floor ≤ B.val h.next) :
   FnOk Try.prog 19 [.p r 0 0 4, sv f, sv b] h fun y h' => y = .i .i64 (addE D f b) ∧ AftR h h' r vL vK vA (if addE D f b = 0 then doD D ⟨2, f, b⟩ else D) := by
 refine fn_go c19 (by intro hb; cases hb) (by simp) (by simp) fun Q hQ => ?_
 simp only [slotsF, Nat.reduceAdd]
 repeat' (first
   | refine St.h ?_
   | simp (disch := first | omega | (simp only [lnv]; omega)) only [wlk, ↓get_put', ↓reduceIte, seval, S.own.row.l1]
   | (with_reducible (first | apply cd_split | apply gd_split)) <;> (intro hc; (try simp only [hcn] at hc); (try simp only [hc]); (try simp only [hcl] at hc); try omega))
 refine CL.pure (rfind_ok (k := f) S.l (by omega)) ?_
 by_cases hk : lookR D.L f = none
 · have e : addE D f b = 14 := by unfold addE; rw [if_pos hk]
   have hd : decide (findR D.L f < 0) = true := decide_eq_true (by rw [find_lt]; exact hk)
   repeat' (first
     | refine St.h ?_
     | simp (disch := first | omega | (simp only [lnv]; omega)) only [wlk, ↓get_put', ↓reduceIte, seval, S.own.row.l1, hd]
     | (with_reducible (first | apply cd_split | apply gd_split)) <;> (intro hc; (try simp only [hcn] at hc); (try simp only [hc]); (try simp only [hcl] at hc); try omega))
   subst hQ
   exact ⟨by rw [e], by rw [e]; exact AftR.same S⟩
 · have en : addE D f b = if max 0 (D.most - (usedR D.L : Int)) < (b.length : Int) then 15 else 0 := by unfold addE; rw [if_neg hk]
   have hd : decide (findR D.L f < 0) = false := decide_eq_false (by rw [find_lt]; exact hk)
   obtain ⟨b0, hb0⟩ := Option.ne_none_iff_exists'.1 hk
   have hb1 := used_look hb0
   repeat' (first
     | refine St.h ?_
     | simp (disch := first | omega | (simp only [lnv]; omega)) only [wlk, ↓get_put', ↓reduceIte, seval, S.own.row.l1, hd]
     | (with_reducible (first | apply cd_split | apply gd_split)) <;> (intro hc; (try simp only [hcn] at hc); (try simp only [hc]); (try simp only [hcl] at hc); try omega))
   refine CL.pure (rleft_ok S.own.row (by omega) S.l (by omega) (by omega) h0 h1) ?_
   by_cases hlt : max 0 (D.most - (usedR D.L : Int)) < (b.length : Int)
   · have e : addE D f b = 15 := by rw [en, if_pos hlt]
     repeat' (first
       | refine St.h ?_
       | simp (disch := first | omega | (simp only [lnv]; omega)) only [wlk, ↓get_put', ↓reduceIte, seval]
       | (with_reducible (first | apply cd_split | apply gd_split)) <;> (intro hc; (try simp only [hcn] at hc); (try simp only [hc]); (try simp only [hcl] at hc); try omega))
     subst hQ
     exact ⟨by rw [e], by rw [e]; exact AftR.same S⟩
   · have e : addE D f b = 0 := by rw [en, if_neg hlt]
     repeat' (first
       | refine St.h ?_
       | simp (disch := first | omega | (simp only [lnv]; omega)) only [wlk, ↓get_put', ↓reduceIte, seval]
       | (with_reducible (first | apply cd_split | apply gd_split)) <;> (intro hc; (try simp only [hcn] at hc); (try simp only [hc]); (try simp only [hcl] at hc); try omega))
     refine CL.mk (rdo_ok (a := ⟨2, f, b⟩) S hl hla (fun _ => ⟨b0, hb0, fun _ => by show b0.length + b.length ≤ 1048576; omega⟩) hf) ?_
     rintro y h2 ⟨rfl, uL, uA, S2, s2, fp2⟩
     repeat' (first
       | refine St.h ?_
       | simp (disch := first | omega | (simp only [lnv]; omega)) only [wlk, ↓get_put', ↓reduceIte, seval]
       | (with_reducible (first | apply cd_split | apply gd_split)) <;> (intro hc; (try simp only [hcn] at hc); (try simp only [hc]); (try simp only [hcl] at hc); try omega))
     subst hQ
     exact ⟨by rw [e], by rw [e]; exact ⟨uL, vK, uA, S2, s2, fp2⟩⟩
theorem rswap_ok {o f : List UInt8} (S : RfS h r vL vK vA D) (hl : D.L.length ≤ 1000) (hla : D.A.length ≤ 1000) (hfl : f.length ≤ 9223372036854775807) (hf : B.val h.floor ≤ B.val h.next) :
   FnOk Try.prog 21 [.p r 0 0 4, sv o, sv f] h fun y h' => y = .i .i64 (swapE D o f) ∧ AftR h h' r vL vK vA (if swapE D o f = 0 then doD D ⟨3, o, f⟩ else D) := by
 refine fn_go c21 (by intro hb; cases hb) (by simp) (by simp) fun Q hQ => ?_
 simp only [slotsF, Nat.reduceAdd]
 repeat' (first
   | refine St.h ?_
   | simp (disch := first | omega | (simp only [lnv]; omega)) only [wlk, ↓get_put', ↓reduceIte, seval]
   | (with_reducible (first | apply cd_split | apply gd_split)) <;> (intro hc; (try simp only [hcn] at hc); (try simp only [hc]); (try simp only [hcl] at hc); try omega))
 refine CL.pure (rname_ok hfl) ?_
 cases hn : nameP f with
 | false =>
   have e : swapE D o f = 10 := by unfold swapE; rw [if_pos hn]
   repeat' (first
     | refine St.h ?_
     | simp (disch := first | omega | (simp only [lnv]; omega)) only [wlk, ↓get_put', ↓reduceIte, seval]
     | (with_reducible (first | apply cd_split | apply gd_split)) <;> (intro hc; (try simp only [hcn] at hc); (try simp only [hc]); (try simp only [hcl] at hc); try omega))
   subst hQ
   exact ⟨by rw [e], by rw [e]; exact AftR.same S⟩
 | true =>
 have en : swapE D o f = if lookR D.L o = none then 14 else 0 := by unfold swapE; rw [if_neg (by rw [hn]; decide)]
 repeat' (first
   | refine St.h ?_
   | simp (disch := first | omega | (simp only [lnv]; omega)) only [wlk, ↓get_put', ↓reduceIte, seval, S.own.row.l1]
   | (with_reducible (first | apply cd_split | apply gd_split)) <;> (intro hc; (try simp only [hcn] at hc); (try simp only [hc]); (try simp only [hcl] at hc); try omega))
 refine CL.pure (rfind_ok (k := o) S.l (by omega)) ?_
 by_cases hk : lookR D.L o = none
 · have e : swapE D o f = 14 := by rw [en, if_pos hk]
   have hd : decide (findR D.L o < 0) = true := decide_eq_true (by rw [find_lt]; exact hk)
   repeat' (first
     | refine St.h ?_
     | simp (disch := first | omega | (simp only [lnv]; omega)) only [wlk, ↓get_put', ↓reduceIte, seval, S.own.row.l1, hd]
     | (with_reducible (first | apply cd_split | apply gd_split)) <;> (intro hc; (try simp only [hcn] at hc); (try simp only [hc]); (try simp only [hcl] at hc); try omega))
   subst hQ
   exact ⟨by rw [e], by rw [e]; exact AftR.same S⟩
 · have e : swapE D o f = 0 := by rw [en, if_neg hk]
   have hd : decide (findR D.L o < 0) = false := decide_eq_false (by rw [find_lt]; exact hk)
   obtain ⟨b0, hb0⟩ := Option.ne_none_iff_exists'.1 hk
   repeat' (first
     | refine St.h ?_
     | simp (disch := first | omega | (simp only [lnv]; omega)) only [wlk, ↓get_put', ↓reduceIte, seval, S.own.row.l1, hd]
     | (with_reducible (first | apply cd_split | apply gd_split)) <;> (intro hc; (try simp only [hcn] at hc); (try simp only [hc]); (try simp only [hcl] at hc); try omega))
   refine CL.mk (rdo_ok (a := ⟨3, o, f⟩) S hl hla (fun _ => ⟨b0, hb0, fun h => by cases h⟩) hf) ?_
   rintro y h2 ⟨rfl, uL, uA, S2, s2, fp2⟩
   repeat' (first
     | refine St.h ?_
     | simp (disch := first | omega | (simp only [lnv]; omega)) only [wlk, ↓get_put', ↓reduceIte, seval]
     | (with_reducible (first | apply cd_split | apply gd_split)) <;> (intro hc; (try simp only [hcn] at hc); (try simp only [hc]); (try simp only [hcl] at hc); try omega))
   subst hQ
   exact ⟨by rw [e], by rw [e]; exact ⟨uL, vK, uA, S2, s2, fp2⟩⟩
theorem rdrop_ok {f : List UInt8} (S : RfS h r vL vK vA D) (hl : D.L.length ≤ 1000) (hla : D.A.length ≤ 1000) (hf : B.val h.floor ≤ B.val h.next) :
   FnOk Try.prog 23 [.p r 0 0 4, sv f] h fun y h' => y = .i .i64 (dropE D f) ∧ AftR h h' r vL vK vA (if dropE D f = 0 then doD D ⟨4, f, []⟩ else D) := by
 refine fn_go c23 (by intro hb; cases hb) (by simp) (by simp) fun Q hQ => ?_
 simp only [slotsF, Nat.reduceAdd]
 repeat' (first
   | refine St.h ?_
   | simp (disch := first | omega | (simp only [lnv]; omega)) only [wlk, ↓get_put', ↓reduceIte, seval, S.own.row.l1]
   | (with_reducible (first | apply cd_split | apply gd_split)) <;> (intro hc; (try simp only [hcn] at hc); (try simp only [hc]); (try simp only [hcl] at hc); try omega))
 refine CL.pure (rfind_ok (k := f) S.l (by omega)) ?_
 by_cases hk : lookR D.L f = none
 · have e : dropE D f = 14 := by unfold dropE; rw [if_pos hk]
   have hd : decide (findR D.L f < 0) = true := decide_eq_true (by rw [find_lt]; exact hk)
   repeat' (first
     | refine St.h ?_
     | simp (disch := first | omega | (simp only [lnv]; omega)) only [wlk, ↓get_put', ↓reduceIte, seval, S.own.row.l1, hd]
     | (with_reducible (first | apply cd_split | apply gd_split)) <;> (intro hc; (try simp only [hcn] at hc); (try simp only [hc]); (try simp only [hcl] at hc); try omega))
   subst hQ
   exact ⟨by rw [e], by rw [e]; exact AftR.same S⟩
 · have e : dropE D f = 0 := by unfold dropE; rw [if_neg hk]
   have hd : decide (findR D.L f < 0) = false := decide_eq_false (by rw [find_lt]; exact hk)
   repeat' (first
     | refine St.h ?_
     | simp (disch := first | omega | (simp only [lnv]; omega)) only [wlk, ↓get_put', ↓reduceIte, seval, S.own.row.l1, hd]
     | (with_reducible (first | apply cd_split | apply gd_split)) <;> (intro hc; (try simp only [hcn] at hc); (try simp only [hc]); (try simp only [hcl] at hc); try omega))
   refine CL.mk (rdo_ok (a := ⟨4, f, []⟩) S hl hla (fun h => by rcases h with h | h; cases h; cases h.1) hf) ?_
   rintro y h2 ⟨rfl, uL, uA, S2, s2, fp2⟩
   repeat' (first
     | refine St.h ?_
     | simp (disch := first | omega | (simp only [lnv]; omega)) only [wlk, ↓get_put', ↓reduceIte, seval]
     | (with_reducible (first | apply cd_split | apply gd_split)) <;> (intro hc; (try simp only [hcn] at hc); (try simp only [hc]); (try simp only [hcl] at hc); try omega))
   subst hQ
   exact ⟨by rw [e], by rw [e]; exact ⟨uL, vK, uA, S2, s2, fp2⟩⟩
theorem rkeep_ok (S : RfS h r vL vK vA D) (hf : B.val h.floor ≤ B.val h.next) :
   FnOk Try.prog 25 [.p r 0 0 4] h fun y h' => y = .tu [] ∧ RfS h' r vL vL .l0 { D with K := D.L, A := [] } ∧ Stay (fun i => i = r) h h' := by
 have no : ∀ q, ¬ isOf .l0 q := fun q ⟨_, _, _, _, _, e⟩ => by cases e
 refine fn_go c25 (by intro hb; cases hb) (by simp) (by simp) fun Q hQ => ?_
 simp only [slotsF, Nat.reduceAdd]
 repeat' (first
   | refine St.h ?_
   | simp (disch := first | omega | (simp only [lnv]; omega)) only [wlk, ↓get_put', ↓reduceIte, seval, S.own.row.l1]
   | (with_reducible (first | apply cd_split | apply gd_split)) <;> (intro hc; (try simp only [hcn] at hc); (try simp only [hc]); (try simp only [hcl] at hc); try omega))
 refine ST.own S.own (sl_one S.l).1 (sl_one S.l).2 (by omega) (by omega) fun h1 o1 s1 => ?_
 repeat' (first
   | refine St.h ?_
   | simp (disch := first | omega | (simp only [lnv]; omega)) only [wlk, ↓get_put', ↓reduceIte, seval, o1.row.l1]
   | (with_reducible (first | apply cd_split | apply gd_split)) <;> (intro hc; (try simp only [hcn] at hc); (try simp only [hc]); (try simp only [hcl] at hc); try omega))
 refine ST.own o1 rfl rfl (by simp) (by simp) fun h2 o2 s2 => ?_
 repeat' (first
   | refine St.h ?_
   | simp (disch := first | omega | (simp only [lnv]; omega)) only [wlk, ↓get_put', ↓reduceIte, seval]
   | (with_reducible (first | apply cd_split | apply gd_split)) <;> (intro hc; (try simp only [hcn] at hc); (try simp only [hc]); (try simp only [hcl] at hc); try omega))
 subst hQ
 have L1 := (S.l.stay s1 fun q hq e => S.lr (by rw [← e]; exact hq)).stay s2 fun q hq e => S.lr (by rw [← e]; exact hq)
 exact ⟨rfl, ⟨o2, L1, L1, .inl ⟨rfl, rfl⟩, S.lr, S.lr, no _⟩, s1.trans s2⟩
theorem rget_ok {f : List UInt8} (S : RfS h r vL vK vA D) (hl : D.L.length ≤ 1000) :
   FnOk Try.prog 32 [.p r 0 0 4, sv f] h fun y h' => y = .tu [sv ((lookR D.L f).getD []), .i .i64 (if lookR D.L f = none then 14 else 0)] ∧ h' = h := by
 refine fn_go c32 (by intro hb; cases hb) (by simp) (by simp) fun Q hQ => ?_
 simp only [slotsF, Nat.reduceAdd]
 repeat' (first
   | refine St.h ?_
   | simp (disch := first | omega | (simp only [lnv]; omega)) only [wlk, ↓get_put', ↓reduceIte, seval, S.own.row.l1]
   | (with_reducible (first | apply cd_split | apply gd_split)) <;> (intro hc; (try simp only [hcn] at hc); (try simp only [hc]); (try simp only [hcl] at hc); try omega))
 refine CL.pure (rfind_ok (k := f) S.l (by omega)) ?_
 by_cases hk : lookR D.L f = none
 · have hd : decide (findR D.L f < 0) = true := decide_eq_true (by rw [find_lt]; exact hk)
   repeat' (first
     | refine St.h ?_
     | simp (disch := first | omega | (simp only [lnv]; omega)) only [wlk, ↓get_put', ↓reduceIte, seval, S.own.row.l1, hd]
     | (with_reducible (first | apply cd_split | apply gd_split)) <;> (intro hc; (try simp only [hcn] at hc); (try simp only [hc]); (try simp only [hcl] at hc); try omega))
   subst hQ
   rw [hk]
   exact ⟨rfl, rfl⟩
 · have hd : decide (findR D.L f < 0) = false := decide_eq_false (by rw [find_lt]; exact hk)
   rcases find_look (L := D.L) (k := f) with ⟨_, q⟩ | ⟨i, q1, q2, q3, q4⟩
   · exact absurd q hk
   have hlt : ¬ (i : Int) < 0 := by omega
   repeat' (first
     | refine St.h ?_
     | simp (disch := first | omega | (simp only [lnv]; omega)) only [wlk, ↓get_put', ↓reduceIte, seval, S.own.row.l1, q1, S.l.ix, fi_l1 S.l, Int.toNat_natCast]
     | (with_reducible (first | apply cd_split | apply gd_split)) <;> (intro hc; (try simp only [hcn] at hc); (try simp only [hc]); (try simp only [hcl] at hc); try omega))
   subst hQ
   rw [if_neg hk, q4]
   exact ⟨rfl, rfl⟩
theorem rroom_ok {n : Int} (S : RfS h r vL vK vA D) (hf : B.val h.floor ≤ B.val h.next) :
   FnOk Try.prog 27 [.p r 0 0 4, .i .i64 n] h fun y h' => y = .tu [] ∧ RfS h' r vL vK vA { D with most := max 0 (min n 1000000) } ∧ Stay (fun i => i = r) h h' := by
 refine fn_go c27 (by intro hb; cases hb) (by simp) (by simp) fun Q hQ => ?_
 simp only [slotsF, Nat.reduceAdd]
 repeat' (first
   | refine St.h ?_
   | simp (disch := first | omega | (simp only [lnv]; omega)) only [wlk, ↓get_put', ↓reduceIte, seval, S.own.row.l1]
   | (with_reducible (first | apply cd_split | apply gd_split)) <;> (intro hc; (try simp only [hcn] at hc); (try simp only [hc]); (try simp only [hcl] at hc); try omega))
 refine ST.own S.own rfl rfl (by simp) (by simp) fun h1 o1 s1 => ?_
 repeat' (first
   | refine St.h ?_
   | simp (disch := first | omega | (simp only [lnv]; omega)) only [wlk, ↓get_put', ↓reduceIte, seval]
   | (with_reducible (first | apply cd_split | apply gd_split)) <;> (intro hc; (try simp only [hcn] at hc); (try simp only [hc]); (try simp only [hcl] at hc); try omega))
 subst hQ
 exact ⟨rfl, ⟨o1, S.l.stay s1 fun q hq e => S.lr (by rw [← e]; exact hq), S.k.stay s1 fun q hq e => S.kr (by rw [← e]; exact hq), S.a.stay s1 fun q hq e => S.ar (by rw [← e]; exact hq), S.lr, S.kr, S.ar⟩, s1⟩
end
end Go.Proofs.Ytjlhfoadabkahaa

set_option maxRecDepth 100000
set_option maxHeartbeats 8000000
set_option linter.all false
namespace Go.Proofs.Ytjlhfoadabkahaa
open Go Go.Ev
section
variable {P : Program} {h : H} {r : B} {v vL vK vA : V} {D : DS} {N : Nx} {A : List DA} {i : Nat}
theorem ac_la (a : Ss 3 dC h v A) (hi : i < A.length) : LN P (lid v) (lg v) (loff v + i * 3) (lfin v) 3 h N = N.go P (.a (dC (A.getD i default))) h := Ss.ldA a dC_len (by omega) hi
theorem ac_l0 (a : Ss 3 dC h v A) (hi : i < A.length) : L1 P (lid v) (lg v) (loff v + i * 3) (lfin v) h N = N.go P (.i .i64 (A.getD i default).kind) h := Ss.ld (d := 0) a dC_len hi (by omega)
def runR (K : List Fi) (A : List DA) : List Fi := A.foldl doneR K
theorem runR_succ {K : List Fi} (hi : i < A.length) : runR K (A.take (i + 1)) = doneR (runR K (A.take i)) (A.getD i default) := by
 unfold runR
 rw [List.take_succ_eq_append_getElem hi, List.foldl_append]
 simp [List.getD, hi]
def crashR (K : List Fi) (A : List DA) (n m : Int) : List Fi :=
 let s := (max 0 (min n (A.length : Int))).toNat
 let a := A.getD s default
 let k := (max 0 (min m (a.b.length : Int))).toNat
 if s < A.length ∧ a.kind ≤ 2 ∧ 0 < k then doneR (runR K (A.take s)) ⟨a.kind, a.name, a.b.take k⟩ else runR K (A.take s)
theorem rcrash_ok {n m : Int} (S : RfS h r vL vK vA D) (hla : D.A.length ≤ 1000) (hk : ∀ i, (runR D.K (D.A.take i)).length ≤ 1000) (hm : ∀ i, i < D.A.length → mayR (runR D.K (D.A.take i)) (D.A.getD i default)) (hb : ∀ i, (D.A.getD i default).b.length ≤ 1048576) (hf : B.val h.floor ≤ B.val h.next) :
   FnOk Try.prog 29 [.p r 0 0 4, .i .i64 n, .i .i64 m] h fun y h' => y = .tu [] ∧ ∃ u, RfS h' r u u .l0 { D with L := crashR D.K D.A n m, K := crashR D.K D.A n m, A := [] } ∧ Stay (fun i => i = r) h h' ∧ ∀ q, isOf u q → isOf vK q ∨ B.val h.next ≤ B.val q := by
 obtain ⟨s, hs⟩ : ∃ s : Nat, max 0 (min n (D.A.length : Int)) = (s : Int) := ⟨(max 0 (min n (D.A.length : Int))).toNat, by omega⟩
 have hsl : s ≤ D.A.length := by omega
 have ec : crashR D.K D.A n m = if s < D.A.length ∧ (D.A.getD s default).kind ≤ 2 ∧ 0 < (max 0 (min m ((D.A.getD s default).b.length : Int))).toNat then doneR (runR D.K (D.A.take s)) ⟨(D.A.getD s default).kind, (D.A.getD s default).name, (D.A.getD s default).b.take (max 0 (min m ((D.A.getD s default).b.length : Int))).toNat⟩ else runR D.K (D.A.take s) := by
   unfold crashR; rw [hs, Int.toNat_natCast]
 have nr : B.val r < B.val h.next := S.lt (.inl rfl)
 refine fn_go c29 (by intro hb; cases hb) (by simp) (by simp) fun Q hQ => ?_
 simp only [slotsF, Nat.reduceAdd]
 have rest : ∀ (t : F) (g : H) (v : V), RfS g r vL vK vA D → FiM g v (crashR D.K D.A n m) → Stay nowhere h g → (∀ q, isOf v q → isOf vK q ∨ B.val h.next ≤ B.val q) → B.val g.floor ≤ B.val g.next → get 0 t = .p r 0 0 4 → get 7 t = v → Ok Try.prog 84 s29_18 t g (FnK [] Q) := by
   intro t g v S1 V1 s1 ho1 hf1 e0 e7
   repeat' (first
     | refine St.h ?_
     | simp (disch := first | omega | (simp only [lnv]; omega)) only [wlk, ↓get_put', ↓reduceIte, seval, e0, e7]
     | (with_reducible (first | apply cd_split | apply gd_split)) <;> (intro hc; (try simp only [hcn] at hc); (try simp only [hc]); (try simp only [hcl] at hc); try omega))
   have hvr : ¬ isOf v r := fun e => (ho1 r e).elim S.kr fun e => by omega
   refine ST.own S1.own (sl_one V1).1 (sl_one V1).2 (by omega) (by omega) fun g2 o2 s2 => ?_
   have V2 := V1.stay s2 fun q hq e => hvr (by rw [← e]; exact hq)
   have S2 : RfS g2 r v vK vA { D with L := crashR D.K D.A n m } := ⟨o2, V2, S1.k.stay s2 fun q hq e => S.kr (by rw [← e]; exact hq), S1.a.stay s2 fun q hq e => S.ar (by rw [← e]; exact hq), hvr, S.kr, S.ar⟩
   have hf2 := s2.fl hf1
   repeat' (first
     | refine St.h ?_
     | simp (disch := first | omega | (simp only [lnv]; omega)) only [wlk, ↓get_put', ↓reduceIte, seval, e0]
     | (with_reducible (first | apply cd_split | apply gd_split)) <;> (intro hc; (try simp only [hcn] at hc); (try simp only [hc]); (try simp only [hcl] at hc); try omega))
   refine CL.mk (rkeep_ok S2 hf2) ?_
   rintro y g3 ⟨rfl, S3, s3⟩
   repeat' (first
     | refine St.h ?_
     | simp (disch := first | omega | (simp only [lnv]; omega)) only [wlk, ↓get_put', ↓reduceIte, seval]
     | (with_reducible (first | apply cd_split | apply gd_split)) <;> (intro hc; (try simp only [hcn] at hc); (try simp only [hc]); (try simp only [hcl] at hc); try omega))
   subst hQ
   exact ⟨rfl, v, S3, (((s1.mono fun _ _ e => e.elim).trans s2).trans s3), ho1⟩
 repeat' (first
   | refine St.h ?_
   | simp (disch := first | omega | (simp only [lnv]; omega)) only [wlk, ↓get_put', ↓reduceIte, seval, S.own.row.l1, S.a.ln, hs]
   | (with_reducible (first | apply cd_split | apply gd_split)) <;> (intro hc; (try simp only [hcn] at hc); (try simp only [hc]); (try simp only [hcl] at hc); try omega))
 refine Ok.lp (fun m' t g => ∃ (i : Nat) (v : V), m' = s - i ∧ i ≤ s ∧ RfS g r vL vK vA D ∧ FiM g v (runR D.K (D.A.take i)) ∧ Stay nowhere h g ∧ (∀ q, isOf v q → isOf vK q ∨ B.val h.next ≤ B.val q) ∧ B.val g.floor ≤ B.val g.next ∧ get 0 t = .p r 0 0 4 ∧ get 2 t = .i .i64 m ∧ get 6 t = .i .i64 (s : Int) ∧ get 7 t = v ∧ get 8 t = .i .i64 (i : Int)) s ?_ ?_
 · simp (disch := first | omega | (simp only [lnv]; omega)) only [wlk, ↓get_put', ↓reduceIte, seval]
   exact ⟨0, vK, by omega, by omega, S, S.k, Stay.refl _ _, fun q hq => .inl hq, hf, trivial, trivial, trivial, rfl, rfl⟩
 rintro I hI m' t g ⟨i, v, rfl, hi, S1, V1, s1, ho1, hf1, e0, e2, e6, e7, e8⟩
 repeat' (first
   | refine St.h ?_
   | simp (disch := first | omega | (simp only [lnv]; omega)) only [wlk, ↓get_put', ↓reduceIte, seval, e0, e2, e6, e7, e8]
   | (with_reducible (first | apply cd_split | apply gd_split)) <;> (intro hc; (try simp only [hcn] at hc); (try simp only [hc]); (try simp only [hcl] at hc); try omega))
 · have hi' : i < D.A.length := by omega
   repeat' (first
     | refine St.h ?_
     | simp (disch := first | omega | (simp only [lnv]; omega)) only [wlk, ↓get_put', ↓reduceIte, seval, e0, e2, e6, e7, e8, S1.own.row.l1, S1.a.ix, Int.toNat_natCast, ac_la S1.a]
     | (with_reducible (first | apply cd_split | apply gd_split)) <;> (intro hc; (try simp only [hcn] at hc); (try simp only [hc]); (try simp only [hcl] at hc); try omega))
   refine CL.mk (rdone_ok V1 (hk i) (hm i hi') hf1) ?_
   rintro w g2 ⟨hW, s2, ho2⟩
   have hf2 := s2.fl hf1
   have nx1 := s1.next
   repeat' (first
     | refine St.h ?_
     | simp (disch := first | omega | (simp only [lnv]; omega)) only [wlk, ↓get_put', ↓reduceIte, seval, e0, e2, e6, e7, e8]
     | (with_reducible (first | apply cd_split | apply gd_split)) <;> (intro hc; (try simp only [hcn] at hc); (try simp only [hc]); (try simp only [hcl] at hc); try omega))
   refine lp_next hI (s - (i + 1)) (by omega) ⟨i + 1, w, rfl, by omega, S1.stay s2 (fun _ _ h => h), by rw [runR_succ hi']; exact hW, s1.trans s2, fun q hq => (ho2 q hq).elim (ho1 q) fun e => .inr (by omega), hf2, by simp (disch := first | omega | (simp only [lnv]; omega)) only [wlk, ↓get_put', ↓reduceIte, seval, e0], by simp (disch := first | omega | (simp only [lnv]; omega)) only [wlk, ↓get_put', ↓reduceIte, seval, e2], by simp (disch := first | omega | (simp only [lnv]; omega)) only [wlk, ↓get_put', ↓reduceIte, seval, e6], by simp (disch := first | omega | (simp only [lnv]; omega)) only [wlk, ↓get_put', ↓reduceIte, seval], by simp (disch := first | omega | (simp only [lnv]; omega)) only [wlk, ↓get_put', ↓reduceIte, seval, e8]; rfl⟩
 obtain rfl : i = s := by omega
 have nx1 := s1.next
 by_cases hi' : i < D.A.length
 · have hbb := hb i
   obtain ⟨k, hkk⟩ : ∃ k : Nat, max 0 (min m ((D.A.getD i default).b.length : Int)) = (k : Int) := ⟨(max 0 (min m ((D.A.getD i default).b.length : Int))).toNat, by omega⟩
   have hkl : k ≤ (D.A.getD i default).b.length := by omega
   rw [hkk, Int.toNat_natCast] at ec
   have hmi := hm i hi'
   revert ec hkk hkl hmi
   generalize ha : D.A.getD i default = a
   rw [ha] at hbb
   intro ec hkk hkl hmi
   by_cases h2 : a.kind ≤ 2
   · have hdc : (dC a).length = 3 := rfl
     repeat' (first
       | refine St.h ?_
       | simp (disch := first | omega | (simp only [lnv]; omega)) only [wlk, ↓get_put', ↓reduceIte, seval, e0, e2, e6, e7, e8, S1.own.row.l1, S1.a.ln, S1.a.ix, Int.toNat_natCast, ac_la S1.a, ac_l0 S1.a, ha]
       | (with_reducible (first | apply cd_split | apply gd_split)) <;> (intro hc; (try simp only [hcn] at hc); (try simp only [hc]); (try simp only [hcl] at hc); try omega))
     refine AL.own (by simp) hf1 fun g1 s2 n1 o1 => ?_
     have S2 := S1.stay s2 fun _ _ h => h
     have V2 := V1.stay s2 fun _ _ h => h
     have hf2 := s2.fl hf1
     have nx2 := s2.next
     repeat' (first
       | refine St.h ?_
       | simp (disch := first | omega | (simp only [lnv]; omega)) only [wlk, ↓get_put', ↓reduceIte, seval, e0, e2, e6, e7, e8, S2.own.row.l1, S2.a.ln, S2.a.ix, Int.toNat_natCast, ac_la S2.a, ac_l0 S2.a, ha]
       | (with_reducible (first | apply cd_split | apply gd_split)) <;> (intro hc; (try simp only [hcn] at hc); (try simp only [hc]); (try simp only [hcl] at hc); try omega))
     refine ST.all (vs := dC a) o1 rfl rfl (by rw [hdc]; omega) (by rw [hdc]; omega) fun g2 o2 s3 => ?_
     have o2 : Ev.Own g2 g.next [.i .i64 a.kind, sv a.name, sv a.b] := o2
     repeat' (first
       | refine St.h ?_
       | simp (disch := first | omega | (simp only [lnv]; omega)) only [wlk, ↓get_put', ↓reduceIte, seval, e0, e2, e6, e7, e8, o2.row.l1, o2.row.ln, hkk]
       | (with_reducible (first | apply cd_split | apply gd_split)) <;> (intro hc; (try simp only [hcn] at hc); (try simp only [hc]); (try simp only [hcl] at hc); try omega))
     refine ST.own o2 rfl rfl (by simp) (by simp) fun g3 o3 s4 => ?_
     have o3 : Ev.Own g3 g.next [.i .i64 a.kind, sv a.name, sv (a.b.take k)] := o3
     have hb3 : ∀ q, B.val q < B.val g.next → ¬ q = g.next := fun q hq e => by rw [e] at hq; exact absurd hq (Nat.lt_irrefl _)
     have S3 := (S2.stay s3 fun q hq => hb3 q (S1.lt hq)).stay s4 fun q hq => hb3 q (S1.lt hq)
     have V3 := (V2.stay s3 fun q hq => hb3 q (ss_lt V1 hq)).stay s4 fun q hq => hb3 q (ss_lt V1 hq)
     have hf3 := s4.fl (s3.fl hf2)
     have nx3 := s3.next
     have nx4 := s4.next
     have t3 : Stay nowhere h g3 := ((((s1.trans s2).mono fun _ _ e => .inl e).trans (s3.mono fun _ _ e => .inr e)).trans (s4.mono fun _ _ e => .inr e) : Stay (fun q => nowhere q ∨ q = g.next) h g3).mono fun q hq e => e.elim (fun e => e) fun e => by rw [e] at hq; omega
     by_cases hk0 : 0 < k
     · have ex : crashR D.K D.A n m = doneR (runR D.K (D.A.take i)) ⟨a.kind, a.name, a.b.take k⟩ := by rw [ec, if_pos ⟨hi', h2, hk0⟩]
       repeat' (first
         | refine St.h ?_
         | simp (disch := first | omega | (simp only [lnv]; omega)) only [wlk, ↓get_put', ↓reduceIte, seval, e0, e2, e6, e7, e8, o3.row.l1, o3.row.ln]
         | (with_reducible (first | apply cd_split | apply gd_split)) <;> (intro hc; (try simp only [hcn] at hc); (try simp only [hc]); (try simp only [hcl] at hc); try omega))
       refine CL.mk (rdone_ok (a := ⟨a.kind, a.name, a.b.take k⟩) V3 (hk i) (fun h => ?_) hf3) ?_
       · obtain ⟨b0, q1, q2⟩ := hmi (h.elim .inl fun e => absurd e.1 (by show ¬ a.kind = 3; omega))
         exact ⟨b0, q1, fun h => Nat.le_trans (Nat.add_le_add_left (by rw [List.length_take]; omega) _) (q2 h)⟩
       rintro w g4 ⟨hW, s5, ho5⟩
       rw [← ex] at hW
       have hf4 := s5.fl hf3
       repeat' (first
         | refine rest _ _ w (S3.stay s5 fun _ _ h => h) hW (t3.trans s5) (fun q hq => (ho5 q hq).elim (ho1 q) fun e => .inr (by omega)) hf4 ?_ ?_
         | refine St.h ?_
         | simp (disch := first | omega | (simp only [lnv]; omega)) only [wlk, ↓get_put', ↓reduceIte, seval, e0, e2, e6, e7, e8]
         | (with_reducible (first | apply cd_split | apply gd_split)) <;> (intro hc; (try simp only [hcn] at hc); (try simp only [hc]); (try simp only [hcl] at hc); try omega))
     · have ex : crashR D.K D.A n m = runR D.K (D.A.take i) := by rw [ec, if_neg fun h => hk0 h.2.2]
       rw [← ex] at V3
       repeat' (first
         | refine rest _ _ v S3 V3 t3 ho1 hf3 ?_ ?_
         | refine St.h ?_
         | simp (disch := first | omega | (simp only [lnv]; omega)) only [wlk, ↓get_put', ↓reduceIte, seval, e0, e2, e6, e7, e8, o3.row.l1, o3.row.ln]
         | (with_reducible (first | apply cd_split | apply gd_split)) <;> (intro hc; (try simp only [hcn] at hc); (try simp only [hc]); (try simp only [hcl] at hc); try omega))
   · have ex : crashR D.K D.A n m = runR D.K (D.A.take i) := by rw [ec, if_neg fun h => h2 h.2.1]
     rw [← ex] at V1
     repeat' (first
       | refine rest _ _ v S1 V1 s1 ho1 hf1 ?_ ?_
       | refine St.h ?_
       | simp (disch := first | omega | (simp only [lnv]; omega)) only [wlk, ↓get_put', ↓reduceIte, seval, e0, e2, e6, e7, e8, S1.own.row.l1, S1.a.ln, S1.a.ix, Int.toNat_natCast, ac_la S1.a, ac_l0 S1.a, ha]
       | (with_reducible (first | apply cd_split | apply gd_split)) <;> (intro hc; (try simp only [hcn] at hc); (try simp only [hc]); (try simp only [hcl] at hc); try omega))
 · have ex : crashR D.K D.A n m = runR D.K (D.A.take i) := by rw [ec, if_neg fun h => hi' h.1]
   rw [← ex] at V1
   repeat' (first
     | refine rest _ _ v S1 V1 s1 ho1 hf1 ?_ ?_
     | refine St.h ?_
     | simp (disch := first | omega | (simp only [lnv]; omega)) only [wlk, ↓get_put', ↓reduceIte, seval, e0, e2, e6, e7, e8, S1.own.row.l1, S1.a.ln]
     | (with_reducible (first | apply cd_split | apply gd_split)) <;> (intro hc; (try simp only [hcn] at hc); (try simp only [hc]); (try simp only [hcl] at hc); try omega))
end
end Go.Proofs.Ytjlhfoadabkahaa

set_option maxRecDepth 100000
set_option maxHeartbeats 8000000
set_option linter.all false
namespace Go.Proofs.Ytjlhfoadabkahaa
open Go Go.Ev
structure Stp where
 what : Int
 n : Int
 m : Int
 name : List UInt8
 to : List UInt8
 b : List UInt8
instance : Inhabited Stp := ⟨⟨0, 0, 0, [], [], []⟩⟩
def stC (a : Stp) : List V := [.i .i64 a.what, .i .i64 a.n, .i .i64 a.m, sv a.name, sv a.to, sv a.b]
theorem stC_len (a : Stp) : (stC a).length = 6 := rfl
abbrev Sts (h : H) (v : V) (L : List Stp) : Prop := Ss 6 stC h v L
section
variable {P : Program} {h : H} {v : V} {N : Nx} {L : List Stp} {i : Nat}
theorem st_la (a : Sts h v L) (hi : i < L.length) : LN P (lid v) (lg v) (loff v + i * 6) (lfin v) 6 h N = N.go P (.a (stC (L.getD i default))) h := Ss.ldA a stC_len (by omega) hi
theorem st_l3 (a : Sts h v L) (hi : i < L.length) : L1 P (lid v) (lg v) (loff v + i * 6 + 3) (lfin v) h N = N.go P (sv (L.getD i default).name) h := Ss.ld (d := 3) a stC_len hi (by omega)
theorem st_l4 (a : Sts h v L) (hi : i < L.length) : L1 P (lid v) (lg v) (loff v + i * 6 + 4) (lfin v) h N = N.go P (sv (L.getD i default).to) h := Ss.ld (d := 4) a stC_len hi (by omega)
theorem st_l5 (a : Sts h v L) (hi : i < L.length) : L1 P (lid v) (lg v) (loff v + i * 6 + 5) (lfin v) h N = N.go P (sv (L.getD i default).b) h := Ss.ld (d := 5) a stC_len hi (by omega)
def okS (a : Stp) : Bool := decide (a.b.length ≤ 100) && (decide (a.name.length ≤ 30) && decide (a.to.length ≤ 30))
def fewS (L : List Stp) : Bool := L.all okS && decide (L.length ≤ 60)
theorem okS_no {a : Stp} (h : 100 < a.b.length ∨ 30 < a.name.length ∨ 30 < a.to.length) : okS a = false := by
 cases e : okS a with
 | false => rfl
 | true =>
   unfold okS at e
   simp only [Bool.and_eq_true, decide_eq_true_eq] at e
   omega
theorem fewS_at (hi : i < L.length) (hb : okS (L.getD i default) = false) : fewS L = false := by
 unfold fewS
 cases e : L.all okS with
 | false => rfl
 | true =>
   have := List.all_eq_true.1 e (L.getD i default) (by simp [List.getD, hi])
   rw [hb] at this; cases this
theorem fewS_end (hs : ∀ i, i < L.length → okS (L.getD i default) = true) : fewS L = decide (L.length ≤ 60) := by
 unfold fewS
 rw [List.all_eq_true.2 fun a ha => ?_, Bool.true_and]
 obtain ⟨i, hi, rfl⟩ := List.getElem_of_mem ha
 have := hs i hi
 simpa [List.getD, hi] using this
theorem few5_ok (hL : Sts h v L) (hl : L.length ≤ 9223372036854775807) : FnOk Try.prog 13 [v] h fun y h' => y = .b (fewS L) ∧ h' = h := by
 refine fn_go c13 (by intro hb; cases hb) (by simp) (by simp) fun Q hQ => ?_
 simp only [slotsF, Nat.reduceAdd]
 repeat' (first
   | refine St.h ?_
   | simp (disch := first | omega | (simp only [lnv]; omega)) only [wlk, ↓get_put', ↓reduceIte, seval]
   | (with_reducible (first | apply cd_split | apply gd_split)) <;> (intro hc; (try simp only [hcn] at hc); (try simp only [hc]); (try simp only [hcl] at hc); try omega))
 refine Ok.lp (fun m t g => ∃ j : Nat, m = L.length - j ∧ h = g ∧ (∀ i, i < j → okS (L.getD i default) = true) ∧ j ≤ L.length ∧ get 0 t = v ∧ get 3 t = .i .i64 (j : Int)) L.length ?_ ?_
 · simp (disch := first | omega | (simp only [lnv]; omega)) only [wlk, ↓get_put', ↓reduceIte, seval]
   exact ⟨0, by omega, trivial, fun i hi => by omega, by omega, trivial, rfl⟩
 rintro I hI m t g ⟨j, rfl, rfl, hs, hj, f0, f3⟩
 repeat' (first
   | refine St.h ?_
   | simp (disch := first | omega | (simp only [lnv]; omega)) only [wlk, ↓get_put', ↓reduceIte, seval, f0, f3, hL.ln, hL.ix, st_l3 hL, st_l4 hL, st_l5 hL, Int.toNat_natCast]
   | (with_reducible (first | apply cd_split | apply gd_split)) <;> (intro hc; (try simp only [hcn] at hc); (try simp only [hc]); (try simp only [hcl] at hc); try omega))
 · subst hQ
   exact ⟨by rw [fewS_at (i := j) (by omega) (okS_no (by omega))], rfl⟩
 · subst hQ
   exact ⟨by rw [fewS_at (i := j) (by omega) (okS_no (by omega))], rfl⟩
 · subst hQ
   exact ⟨by rw [fewS_at (i := j) (by omega) (okS_no (by omega))], rfl⟩
 · have hb : okS (L.getD j default) = true := by unfold okS; simp only [Bool.and_eq_true, decide_eq_true_eq]; omega
   refine lp_next hI (L.length - (j + 1)) (by omega) ⟨j + 1, rfl, rfl, fun i hi => ?_, by omega, ?_, ?_⟩
   · rcases Nat.lt_or_ge i j with h1 | h1
     · exact hs i h1
     · rw [show i = j by omega]; exact hb
   · simp (disch := first | omega | (simp only [lnv]; omega)) only [wlk, ↓get_put', ↓reduceIte, seval, f0]
   · simp (disch := first | omega | (simp only [lnv]; omega)) only [wlk, ↓get_put', ↓reduceIte, seval]; rfl
 · subst hQ
   obtain rfl : j = L.length := by omega
   refine ⟨?_, rfl⟩
   rw [fewS_end hs]
   congr 1
   exact decide_eq_decide.2 ⟨fun h => by omega, fun h => by omega⟩
end
end Go.Proofs.Ytjlhfoadabkahaa

set_option maxRecDepth 100000
set_option maxHeartbeats 8000000
set_option linter.all false
namespace Go.Proofs.Ytjlhfoadabkahaa
open Go Go.Ev
section
variable {L C K : List Fi} {k j : List UInt8} {f : Fi} {a : DA} {u : AC} {n : Int} {A : List DA} {T : List AC}
theorem gt_wio : gt (wioR L k) j = if j = k then none else gt L j := by
 induction L with
 | nil => show gt [] j = _; split <;> rfl
 | cons a r ih =>
   have e : wioR (a :: r) k = if a.1 = k then wioR r k else a :: wioR r k := by
     unfold wioR
     rw [List.filter_cons]
     by_cases e : a.1 = k <;> simp [e]
   rw [e, gt_c]
   by_cases e : a.1 = k
   · rw [if_pos e, ih]
     by_cases e2 : j = k
     · rw [if_pos e2, if_pos e2]
     · rw [if_neg e2, if_neg e2, if_neg (by rw [e]; exact e2)]
   · rw [if_neg e, gt_c, ih]
     by_cases e2 : j = a.1
     · rw [if_pos e2, if_pos e2, if_neg (fun h => e (by rw [← h]; exact e2.symm))]
     · rw [if_neg e2, if_neg e2]
theorem gt_ins (h : gt L f.1 = none) : gt (insR L f) j = if j = f.1 then some f.2 else gt L j := by
 induction L with
 | nil => show gt [f] j = _; rw [gt_c]
 | cons a r ih =>
   rw [gt_c] at h
   have h1 : ¬ f.1 = a.1 := fun e => by rw [if_pos e] at h; cases h
   rw [if_neg h1] at h
   rw [insR_c]
   by_cases e : Op.bytesLess f.1 a.1 = true
   · rw [if_pos e, gt_c]
   · rw [if_neg e, gt_c, ih h, gt_c]
     by_cases e2 : j = a.1
     · rw [if_pos e2, if_pos e2, if_neg (fun h => h1 (by rw [← h]; exact e2))]
     · rw [if_neg e2, if_neg e2]
theorem gt_with : gt (withR L f) j = if j = f.1 then some f.2 else gt L j := by
 unfold withR
 rw [gt_ins (by rw [gt_wio, if_pos rfl]), gt_wio]
 by_cases e : j = f.1
 · rw [if_pos e, if_pos e]
 · rw [if_neg e, if_neg e, if_neg e]
theorem nam_wio (hn : (nam L).Nodup) : (nam (wioR L k)).Nodup := hn.sublist ((List.filter_sublist).map _)
theorem ins_perm : (insR L f).Perm (f :: L) := by
 induction L with
 | nil => exact .refl _
 | cons a r ih =>
   rw [insR_c]
   by_cases e : Op.bytesLess f.1 a.1 = true
   · rw [if_pos e]
   · rw [if_neg e]; exact (ih.cons a).trans (.swap ..)
theorem nam_with (hn : (nam L).Nodup) : (nam (withR L f)).Nodup := by
 have p : (nam (withR L f)).Perm (f.1 :: nam (wioR L f.1)) := (ins_perm (L := wioR L f.1) (f := f)).map _
 rw [p.nodup_iff, List.nodup_cons]
 exact ⟨gt_none.1 (by rw [gt_wio, if_pos rfl]), nam_wio hn⟩
theorem nam_done (hn : (nam L).Nodup) : (nam (doneR L a)).Nodup := by
 unfold doneR
 repeat' split
 all_goals first | exact nam_with hn | exact hn | exact nam_with (nam_wio hn) | exact nam_wio hn
def Sam (C L : List Fi) : Prop := ∀ k, gt C k = gt L k
def tornR (L : List Fi) (a : DA) (n : Int) : List Fi := if a.kind ≤ 2 ∧ 0 < hlN n a.b.length then doneR L ⟨a.kind, a.name, a.b.take (hlN n a.b.length)⟩ else L
def Stepp (L : List Fi) (u : AC) (a : DA) : Prop := ∀ C, (nam C).Nodup → Sam C (doneR L a) → mayU C u ∧ ∀ n, Sam (undoC C u n) (tornR L a n)
theorem done1 {b : List UInt8} : doneR L ⟨1, k, b⟩ = withR L (k, b) := if_pos rfl
theorem done2 {b b0 : List UInt8} (h : gt L k = some b0) : doneR L ⟨2, k, b⟩ = withR L (k, b0 ++ b) := by
 unfold doneR
 rw [if_neg (show ¬ (2 : Int) = 1 by decide), if_pos rfl]
 show withR L (k, (lookR L k).getD [] ++ b) = _
 rw [lookR_gt, h]; rfl
theorem done3s : doneR L ⟨3, k, k⟩ = L := by unfold doneR; rw [if_neg (show ¬ (3 : Int) = 1 by decide), if_neg (show ¬ (3 : Int) = 2 by decide), if_pos rfl, if_pos rfl]
theorem done3 {b0 : List UInt8} (h : gt L k = some b0) (hkj : k ≠ j) : doneR L ⟨3, k, j⟩ = withR (wioR L k) (j, b0) := by
 unfold doneR
 rw [if_neg (show ¬ (3 : Int) = 1 by decide), if_neg (show ¬ (3 : Int) = 2 by decide), if_pos rfl, if_neg hkj]
 show withR (wioR L k) (j, (lookR L k).getD []) = _
 rw [lookR_gt, h]; rfl
theorem done4 {b : List UInt8} : doneR L ⟨4, k, b⟩ = wioR L k := by unfold doneR; rw [if_neg (show ¬ (4 : Int) = 1 by decide), if_neg (show ¬ (4 : Int) = 2 by decide), if_neg (show ¬ (4 : Int) = 3 by decide)]
theorem torn_le {c : Int} {b : List UInt8} (h : c ≤ 2) : tornR L ⟨c, k, b⟩ n = if 0 < hlN n b.length then doneR L ⟨c, k, b.take (hlN n b.length)⟩ else L := by
 by_cases hz : 0 < hlN n b.length
 · rw [if_pos hz]; exact if_pos ⟨h, hz⟩
 · rw [if_neg hz]; exact if_neg fun e => hz e.2
theorem torn_gt {c : Int} {b : List UInt8} (h : ¬ c ≤ 2) : tornR L ⟨c, k, b⟩ n = L := if_neg fun e => h e.1
theorem step_put {b : List UInt8} (h : gt L k = none) : Stepp L (putA k) ⟨1, k, b⟩ := by
 intro C hn hC
 rw [done1] at hC
 have hk : gt C k = some b := by rw [hC, gt_with, if_pos rfl]
 refine ⟨.inl ⟨rfl, rfl, b, hk⟩, fun n j => ?_⟩
 have e : undoC C (putA k) n = if decide (0 < hlN n b.length) then st C k (b.take (hlN n b.length)) else dl C k := by
   show (if decide (0 < hlN n ((gt C k).getD []).length) then st C k (((gt C k).getD []).take (hlN n ((gt C k).getD []).length)) else dl C k) = _
   rw [hk]; rfl
 rw [e, torn_le (by decide)]
 by_cases hz : 0 < hlN n b.length
 · rw [if_pos (decide_eq_true hz), if_pos hz, done1, gt_st, gt_with, hC, gt_with]
   by_cases e : j = k
   · rw [if_pos e, if_pos e]
   · rw [if_neg e, if_neg e, if_neg e]
 · rw [if_neg (by rw [decide_eq_false hz]; decide), if_neg hz, gt_dl hn, hC, gt_with]
   by_cases e : j = k
   · rw [if_pos e, e, h]
   · rw [if_neg e, if_neg e]
theorem step_add {b b0 : List UInt8} (h : gt L k = some b0) : Stepp L (addA k b0.length) ⟨2, k, b⟩ := by
 intro C hn hC
 rw [done2 h] at hC
 have hk : gt C k = some (b0 ++ b) := by rw [hC, gt_with, if_pos rfl]
 refine ⟨.inr (.inl ⟨rfl, rfl, b0 ++ b, hk, by show b0.length ≤ _; rw [List.length_append]; omega⟩), fun n j => ?_⟩
 have e : undoC C (addA k b0.length) n = st C k (b0 ++ b.take (hlN n b.length)) := by
   show st C k (((gt C k).getD []).take (b0.length + hlN n (((gt C k).getD []).length - b0.length))) = _
   rw [hk]
   show st C k ((b0 ++ b).take (b0.length + hlN n ((b0 ++ b).length - b0.length))) = _
   rw [List.length_append, Nat.add_sub_cancel_left, List.take_length_add_append]
 rw [e, gt_st, torn_le (by decide)]
 by_cases hz : 0 < hlN n b.length
 · rw [if_pos hz, done2 h, gt_with, hC, gt_with]
   by_cases e : j = k
   · rw [if_pos e, if_pos e]
   · rw [if_neg e, if_neg e, if_neg e]
 · rw [if_neg hz, hC, gt_with, show hlN n b.length = 0 by omega, List.take_zero, List.append_nil]
   by_cases e : j = k
   · rw [if_pos e, e, h]
   · rw [if_neg e, if_neg e]
theorem step_swap {C0 : List Fi} {b0 : List UInt8} (h0 : Sam C0 L) (h : gt L k = some b0) : Stepp L (swapA C0 k j) ⟨3, k, j⟩ := by
 intro C hn hC
 by_cases hkj : k = j
 · subst hkj
   rw [done3s] at hC
   have es : swapA C0 k k = ⟨3, k, k, 0, none⟩ := by unfold swapA; rw [if_pos rfl]
   rw [es]
   refine ⟨.inr (.inr (.inl ⟨rfl, .inl ⟨rfl, rfl⟩⟩)), fun n i => ?_⟩
   have e : undoC C ⟨3, k, k, 0, none⟩ n = C := by
     show (if (3 : Int) = 1 then C else if (3 : Int) = 2 then C else if (3 : Int) = 3 then (if k = k then C else dl (st C k ((gt C k).getD [])) k) else C) = _
     rw [if_neg (by decide), if_neg (by decide), if_pos rfl, if_pos rfl]
   rw [e, hC, torn_gt (by decide)]
 · rw [done3 h hkj] at hC
   have es : swapA C0 k j = ⟨3, j, k, 0, gt L j⟩ := by unfold swapA; rw [if_neg hkj, h0]
   rw [es]
   have hj : gt C j = some b0 := by rw [hC, gt_with, if_pos rfl]
   have hk : gt C k = none := by rw [hC, gt_with, if_neg hkj, gt_wio, if_pos rfl]
   refine ⟨.inr (.inr (.inl ⟨rfl, .inr ⟨hkj, hk, b0, hj⟩⟩)), fun n i => ?_⟩
   have et : tornR L ⟨3, k, j⟩ n = L := torn_gt (by decide)
   rw [et]
   have hi : gt (st C k b0) i = if i = k then some b0 else if i = j then some b0 else gt L i := by
     rw [gt_st, hC, gt_with]
     by_cases e : i = k
     · rw [if_pos e, if_pos e]
     · rw [if_neg e, if_neg e, gt_wio, if_neg e]
   have hns := st_nam (k := k) (v := b0) hn
   cases hg : gt L j with
   | none =>
     have e : undoC C ⟨3, j, k, 0, none⟩ n = dl (st C k b0) j := by
       show (if (3 : Int) = 1 then C else if (3 : Int) = 2 then C else if (3 : Int) = 3 then (if k = j then C else dl (st C k ((gt C j).getD [])) j) else C) = _
       rw [if_neg (by decide), if_neg (by decide), if_pos rfl, if_neg hkj, hj]; rfl
     rw [e, gt_dl hns, hi]
     by_cases e : i = j
     · rw [if_pos e, e, hg]
     · rw [if_neg e, if_neg e]
       by_cases e2 : i = k
       · rw [if_pos e2, e2, h]
       · rw [if_neg e2]
   | some g =>
     have e : undoC C ⟨3, j, k, 0, some g⟩ n = st (st C k b0) j g := by
       show (if (3 : Int) = 1 then C else if (3 : Int) = 2 then C else if (3 : Int) = 3 then (if k = j then C else st (st C k ((gt C j).getD [])) j g) else C) = _
       rw [if_neg (by decide), if_neg (by decide), if_pos rfl, if_neg hkj, hj]; rfl
     rw [e, gt_st, hi]
     by_cases e : i = j
     · rw [if_pos e, e, hg]
     · rw [if_neg e, if_neg e]
       by_cases e2 : i = k
       · rw [if_pos e2, e2, h]
       · rw [if_neg e2]
theorem step_drop {b0 : List UInt8} (h : gt L k = some b0) : Stepp L (dropA k b0) ⟨4, k, []⟩ := by
 intro C hn hC
 rw [done4] at hC
 refine ⟨.inr (.inr (.inr ⟨rfl, by show gt C k = none; rw [hC, gt_wio, if_pos rfl], b0, rfl⟩)), fun n i => ?_⟩
 have et : tornR L ⟨4, k, []⟩ n = L := torn_gt (by decide)
 have e : undoC C (dropA k b0) n = st C k b0 := by
   show (if (4 : Int) = 1 then C else if (4 : Int) = 2 then C else if (4 : Int) = 3 then C else st C k b0) = _
   rw [if_neg (by decide), if_neg (by decide), if_neg (by decide)]
 rw [et, e, gt_st, hC, gt_wio]
 by_cases e : i = k
 · rw [if_pos e, e, h]
 · rw [if_neg e, if_neg e]
end
end Go.Proofs.Ytjlhfoadabkahaa

set_option maxRecDepth 100000
set_option maxHeartbeats 8000000
set_option linter.all false
namespace Go.Proofs.Ytjlhfoadabkahaa
open Go Go.Ev
section
variable {L C K : List Fi} {k j b : List UInt8} {f : Fi} {a : DA} {u : AC} {n m rm : Int} {A : List DA} {T : List AC} {D : DS} {i : Nat}
theorem used_perm {L M : List Fi} (h : L.Perm M) : usedR L = usedR M := by unfold usedR; exact (h.map _).sum_nat
theorem with_st (hn : (nam L).Nodup) : (withR L (k, b)).Perm (st L k b) := gt_ext (nam_with hn) (st_nam hn) fun j => by rw [gt_with, gt_st]
theorem wio_dl (hn : (nam L).Nodup) : (wioR L k).Perm (dl L k) := gt_ext (nam_wio hn) (dl_nam hn) fun j => by rw [gt_wio, gt_dl hn]
def Okd (L : List Fi) : Prop := L.length ≤ 60 ∧ usedR L ≤ 1000000
theorem okd_perm {M : List Fi} (h : L.Perm M) (o : Okd M) : Okd L := ⟨by rw [h.length_eq]; exact o.1, by rw [used_perm h]; exact o.2⟩
theorem dl_used {b0 : List UInt8} (h : gt L k = some b0) : usedR L = b0.length + usedR (dl L k) ∧ L.length = (dl L k).length + 1 := ⟨used_perm (gt_perm h), (gt_perm h).length_eq⟩
theorem dl_le : (dl L k).length ≤ L.length ∧ usedR (dl L k) ≤ usedR L := by
 cases h : gt L k with
 | none => rw [dl_none h]; exact ⟨Nat.le_refl _, Nat.le_refl _⟩
 | some b0 => have ⟨h1, h2⟩ := dl_used h; omega
theorem okd_dl (o : Okd L) : Okd (dl L k) := by
 cases h : gt L k with
 | none => rw [dl_none h]; exact o
 | some b0 =>
   have ⟨h1, h2⟩ := dl_used h
   exact ⟨by have := o.1; omega, by have := o.2; omega⟩
theorem okd_st (h1 : (dl L k).length + 1 ≤ 60) (h2 : b.length + usedR (dl L k) ≤ 1000000) : Okd (st L k b) := okd_perm st_perm ⟨h1, h2⟩
def StepX (L : List Fi) (u : AC) (a : DA) : Prop := Stepp L u a ∧ mayR L a ∧ a.b.length ≤ 1048576 ∧ Okd (doneR L a)
inductive ChainX (K : List Fi) : List AC → List DA → Prop
 | nil : ChainX K [] []
 | snoc {T' : List AC} {A' : List DA} {u' : AC} {a' : DA} : ChainX K T' A' → StepX (runR K A') u' a' → ChainX K (T' ++ [u']) (A' ++ [a'])
structure Rel (C : List Fi) (T : List AC) (rm : Int) (D : DS) : Prop where
 sam : Sam C D.L
 nodC : (nam C).Nodup
 nodK : (nam D.K).Nodup
 ok : Okd D.K
 run : D.L = runR D.K D.A
 chain : ChainX D.K T D.A
 room : rm = D.most
 r0 : 0 ≤ D.most
 r1 : D.most ≤ 1000000
theorem run_snoc : runR K (A ++ [a]) = doneR (runR K A) a := by unfold runR; rw [List.foldl_append]; rfl
theorem nam_run (hn : (nam K).Nodup) : (nam (runR K A)).Nodup := by
 unfold runR
 induction A generalizing K with
 | nil => exact hn
 | cons a r ih => exact ih (nam_done hn)
theorem ChainX.okd (c : ChainX K T A) (ok : Okd K) : Okd (runR K A) := by
 cases c with
 | nil => exact ok
 | snoc _ s => rw [run_snoc]; exact s.2.2.2
theorem Rel.nodL (R : Rel C T rm D) : (nam D.L).Nodup := by rw [R.run]; exact nam_run R.nodK
theorem Rel.okL (R : Rel C T rm D) : Okd D.L := by rw [R.run]; exact R.chain.okd R.ok
theorem Rel.perm (R : Rel C T rm D) : C.Perm D.L := gt_ext R.nodC R.nodL R.sam
theorem Rel.used (R : Rel C T rm D) : usedR C = usedR D.L := used_perm R.perm
theorem Rel.len (R : Rel C T rm D) : C.length = D.L.length := R.perm.length_eq
theorem ChainX.len (c : ChainX K T A) : T.length = A.length := by
 induction c with
 | nil => rfl
 | snoc _ _ ih => rw [List.length_append, List.length_append, ih]; rfl
theorem Rel.acts (R : Rel C T rm D) : T.length = D.A.length := R.chain.len
theorem Rel.snoc {C' : List Fi} (R : Rel C T rm D) (hn : (nam C').Nodup) (hs : Sam C' (doneR D.L a)) (s : StepX D.L u a) : Rel C' (T ++ [u]) rm (doD D a) := by
 refine ⟨hs, hn, R.nodK, R.ok, ?_, .snoc R.chain (show StepX (runR D.K D.A) u a by rw [← R.run]; exact s), R.room, R.r0, R.r1⟩
 show doneR D.L a = runR D.K (D.A ++ [a])
 rw [run_snoc, ← R.run]
theorem Rel.pe (R : Rel C T rm D) : pErr rm C k b = putE D k b := by
 unfold pErr putE
 have em : max (D.most - (usedR D.L : Int)) 0 = max 0 (D.most - (usedR D.L : Int)) := by omega
 rw [R.used, R.len, R.sam, R.room, lookR_gt, em]
 cases h2 : gt D.L k <;> rfl
theorem Rel.ae (R : Rel C T rm D) : aErr rm C k b = addE D k b := by
 unfold aErr addE
 have em : max (D.most - (usedR D.L : Int)) 0 = max 0 (D.most - (usedR D.L : Int)) := by omega
 rw [R.used, R.sam, R.room, lookR_gt, em]
 cases h2 : gt D.L k <;> rfl
theorem Rel.se (R : Rel C T rm D) : sErr C k j = swapE D k j := by
 unfold sErr swapE
 rw [R.sam, lookR_gt]
 cases h2 : gt D.L k <;> rfl
theorem Rel.put (R : Rel C T rm D) (h : putE D k b = 0) (hb : b.length ≤ 1048576) : Rel (st C k b) (T ++ [putA k]) rm (doD D ⟨1, k, b⟩) := by
 have hg : gt D.L k = none := by
   cases hg : gt D.L k with
   | none => rfl
   | some g =>
     unfold putE at h
     rw [lookR_gt, hg] at h
     by_cases h1 : nameP k = false
     · rw [if_pos h1] at h; cases h
     · rw [if_neg h1, if_pos (by simp)] at h; cases h
 have hc : ¬ (60 ≤ D.L.length ∨ max 0 (D.most - (usedR D.L : Int)) < (b.length : Int)) := fun hc => by
   unfold putE at h
   rw [lookR_gt, hg] at h
   by_cases h1 : nameP k = false
   · rw [if_pos h1] at h; cases h
   · rw [if_neg h1, if_neg (by simp), if_pos hc] at h; cases h
 have ok := R.okL
 have hr := R.r1
 have hn := R.nodL
 refine R.snoc (st_nam R.nodC) (fun j => ?_) ⟨step_put hg, fun e => ?_, hb, ?_⟩
 · rw [done1, gt_st, gt_with, R.sam]
 · rcases e with e | ⟨e, _⟩ <;> cases e
 · rw [done1]
   refine okd_perm (with_st hn) (okd_st ?_ ?_)
   · rw [dl_none hg]; omega
   · rw [dl_none hg]; have := ok.2; omega
theorem Rel.add (R : Rel C T rm D) (h : addE D k b = 0) (hb : b.length ≤ 1048576) : Rel (st C k ((gt C k).getD [] ++ b)) (T ++ [addA k ((gt C k).getD []).length]) rm (doD D ⟨2, k, b⟩) := by
 have hg : ∃ b0, gt D.L k = some b0 := by
   cases hg : gt D.L k with
   | some g => exact ⟨g, rfl⟩
   | none =>
     unfold addE at h
     rw [lookR_gt, hg] at h
     cases h
 obtain ⟨b0, hg⟩ := hg
 have hc : ¬ (max 0 (D.most - (usedR D.L : Int)) < (b.length : Int)) := fun hc => by
   unfold addE at h
   rw [lookR_gt, hg, if_neg (by simp), if_pos hc] at h
   cases h
 have ok := R.okL
 have hr := R.r1
 have hn := R.nodL
 have ⟨h1, h2⟩ := dl_used hg
 have hk := ok.2
 rw [R.sam, hg]
 show Rel (st C k (b0 ++ b)) (T ++ [addA k b0.length]) rm (doD D ⟨2, k, b⟩)
 refine R.snoc (st_nam R.nodC) (fun j => ?_) ⟨step_add hg, fun e => ⟨b0, by rw [lookR_gt]; exact hg, fun _ => by show b0.length + b.length ≤ _; omega⟩, hb, ?_⟩
 · rw [done2 hg, gt_st, gt_with, R.sam]
 · rw [done2 hg]
   exact okd_perm (with_st hn) (okd_st (by have := ok.1; omega) (by rw [List.length_append]; omega))
theorem Rel.swap (R : Rel C T rm D) (h : swapE D k j = 0) (hj : j.length ≤ 1048576) : Rel (swapC C k j) (T ++ [swapA C k j]) rm (doD D ⟨3, k, j⟩) := by
 have hg : ∃ b0, gt D.L k = some b0 := by
   cases hg : gt D.L k with
   | some g => exact ⟨g, rfl⟩
   | none =>
     unfold swapE at h
     rw [lookR_gt, hg] at h
     by_cases h1 : nameP j = false
     · rw [if_pos h1] at h; cases h
     · rw [if_neg h1] at h; cases h
 obtain ⟨b0, hg⟩ := hg
 have hn := R.nodL
 have may : mayR D.L ⟨3, k, j⟩ := fun e => ⟨b0, by rw [lookR_gt]; exact hg, fun e => by cases e⟩
 by_cases hkj : k = j
 · subst hkj
   have e : swapC C k k = C := if_pos rfl
   rw [e]
   refine R.snoc R.nodC (fun i => ?_) ⟨step_swap R.sam hg, may, hj, ?_⟩
   · rw [done3s, R.sam]
   · rw [done3s]; exact R.okL
 · have e : swapC C k j = st (dl C k) j b0 := by unfold swapC; rw [if_neg hkj, R.sam, hg]; rfl
   rw [e]
   have hd := dl_nam (k := k) R.nodC
   refine R.snoc (st_nam hd) (fun i => ?_) ⟨step_swap R.sam hg, may, hj, ?_⟩
   · rw [done3 hg hkj, gt_st, gt_with, gt_dl R.nodC, gt_wio, R.sam]
   · rw [done3 hg hkj]
     have ⟨h1, h2⟩ := dl_used hg
     have ok := R.okL
     have hw := wio_dl (k := k) hn
     have l1 := hw.length_eq
     have l2 := used_perm hw
     have ⟨d1, d2⟩ := dl_le (L := wioR D.L k) (k := j)
     have := ok.1
     have := ok.2
     exact okd_perm (with_st (nam_wio hn)) (okd_st (by omega) (by omega))
theorem Rel.drop {b0 : List UInt8} (R : Rel C T rm D) (h : gt C k = some b0) : Rel (dl C k) (T ++ [dropA k b0]) rm (doD D ⟨4, k, []⟩) := by
 have hg : gt D.L k = some b0 := by rw [← R.sam]; exact h
 refine R.snoc (dl_nam R.nodC) (fun j => ?_) ⟨step_drop hg, fun e => ?_, Nat.zero_le _, ?_⟩
 · rw [done4, gt_dl R.nodC, gt_wio, R.sam]
 · rcases e with e | ⟨e, _⟩ <;> cases e
 · rw [done4]; exact okd_perm (wio_dl R.nodL) (okd_dl R.okL)
theorem Rel.keep (R : Rel C T rm D) : Rel C [] rm { D with K := D.L, A := [] } := ⟨R.sam, R.nodC, R.nodL, R.okL, rfl, .nil, R.room, R.r0, R.r1⟩
theorem Rel.rom (R : Rel C T rm D) : Rel C T (max 0 (min n 1000000)) { D with most := max 0 (min n 1000000) } := ⟨R.sam, R.nodC, R.nodK, R.ok, R.run, R.chain, rfl, by show (0 : Int) ≤ max 0 (min n 1000000); omega, by show max 0 (min n 1000000) ≤ (1000000 : Int); omega⟩
theorem Rel.new : Rel [] [] (max 0 (min n 1000000)) ⟨[], [], [], max 0 (min n 1000000)⟩ := ⟨fun _ => rfl, List.nodup_nil, List.nodup_nil, ⟨Nat.zero_le _, Nat.zero_le _⟩, rfl, .nil, rfl, by show (0 : Int) ≤ max 0 (min n 1000000); omega, by show max 0 (min n 1000000) ≤ (1000000 : Int); omega⟩
end
end Go.Proofs.Ytjlhfoadabkahaa

set_option maxRecDepth 100000
set_option maxHeartbeats 8000000
set_option linter.all false
namespace Go.Proofs.Ytjlhfoadabkahaa
open Go Go.Ev
instance : Inhabited AC := ⟨⟨0, [], [], 0, none⟩⟩
section
variable {L C C' K : List Fi} {k j b : List UInt8} {f : Fi} {a : DA} {u : AC} {n m rm : Int} {A : List DA} {T : List AC} {D : DS} {i : Nat}
theorem getD_left {α : Type} [Inhabited α] {l r : List α} (h : i < l.length) : (l ++ r).getD i default = l.getD i default := by
 simp [List.getD, List.getElem?_append_left h]
theorem getD_mid {α : Type} [Inhabited α] {l : List α} {x : α} : (l ++ [x]).getD l.length default = x := by simp [List.getD]
theorem ChainX.at (c : ChainX K T A) : ∀ i, i < A.length → StepX (runR K (A.take i)) (T.getD i default) (A.getD i default) := by
 induction c with
 | nil => intro i h; exact absurd h (Nat.not_lt_zero _)
 | @snoc T' A' u' a' c s ih =>
   intro i h
   rw [List.length_append] at h
   have h : i < A'.length + 1 := h
   rcases Nat.lt_or_ge i A'.length with h1 | h1
   · rw [List.take_append_of_le_length (Nat.le_of_lt h1), getD_left h1, getD_left (by rw [c.len]; exact h1)]
     exact ih i h1
   · obtain rfl : i = A'.length := by omega
     rw [List.take_left, getD_mid]
     rw [show (T' ++ [u']).getD A'.length default = u' by rw [← c.len]; exact getD_mid]
     exact s
theorem ChainX.ok_at (c : ChainX K T A) (ok : Okd K) (i : Nat) : Okd (runR K (A.take i)) := by
 induction i with
 | zero => exact ok
 | succ i ih =>
   rcases Nat.lt_or_ge i A.length with h | h
   · rw [runR_succ h]; exact (c.at i h).2.2.2
   · rw [List.take_of_length_le (by omega)]; rw [List.take_of_length_le h] at ih; exact ih
theorem torn_0 : tornR L a 0 = L := by
 unfold tornR
 have e : hlN 0 a.b.length = 0 := by unfold hlN; omega
 rw [if_neg fun h => by rw [e] at h; omega]
theorem ChainX.back (c : ChainX K T A) (hi : i < A.length) (hn : (nam C).Nodup) (hC : Sam C (runR K (A.take (i + 1)))) : mayU C (T.getD i default) ∧ Sam (undoC C (T.getD i default) 0) (runR K (A.take i)) ∧ ∀ n, Sam (undoC C (T.getD i default) n) (tornR (runR K (A.take i)) (A.getD i default) n) := by
 rw [runR_succ hi] at hC
 have ⟨h1, h2⟩ := (c.at i hi).1 C hn hC
 refine ⟨h1, ?_, h2⟩
 have := h2 0
 rwa [torn_0] at this
theorem crash_lt (h : hlN n A.length < A.length) : crashR K A n m = tornR (runR K (A.take (hlN n A.length))) (A.getD (hlN n A.length) default) m := by
 show (if hlN n A.length < A.length ∧ (A.getD (hlN n A.length) default).kind ≤ 2 ∧ 0 < hlN m (A.getD (hlN n A.length) default).b.length then _ else _) = _
 unfold tornR
 by_cases e : (A.getD (hlN n A.length) default).kind ≤ 2 ∧ 0 < hlN m (A.getD (hlN n A.length) default).b.length
 · rw [if_pos ⟨h, e⟩, if_pos e]; rfl
 · rw [if_neg fun x => e x.2, if_neg e]; rfl
theorem crash_ge (h : ¬ hlN n A.length < A.length) : crashR K A n m = runR K A := by
 have e : crashR K A n m = runR K (A.take (hlN n A.length)) := if_neg fun x => h x.1
 rw [e, List.take_of_length_le (by omega)]
theorem okd_torn (hn : (nam L).Nodup) (may : mayR L a) (o : Okd L) (oa : Okd (doneR L a)) : Okd (tornR L a m) := by
 obtain ⟨kd, nm, b⟩ := a
 by_cases h2 : kd ≤ 2
 · rw [torn_le h2]
   by_cases hz : 0 < hlN m b.length
   · rw [if_pos hz]
     have hle : (b.take (hlN m b.length)).length ≤ b.length := by rw [List.length_take]; omega
     by_cases k1 : kd = 1
     · subst k1
       rw [done1] at oa ⊢
       have ⟨o1, o2⟩ := okd_perm ((st_perm (X := L) (k := nm) (v := b)).symm.trans (with_st hn).symm) oa
       have o1 : (dl L nm).length + 1 ≤ 60 := o1
       have o2 : b.length + usedR (dl L nm) ≤ 1000000 := o2
       exact okd_perm (with_st hn) (okd_st o1 (by omega))
     · by_cases k2 : kd = 2
       · subst k2
         obtain ⟨b0, h, _⟩ := may (.inl rfl)
         have h : gt L nm = some b0 := by rw [← lookR_gt]; exact h
         rw [done2 h] at oa ⊢
         have ⟨o1, o2⟩ := okd_perm ((st_perm (X := L) (k := nm) (v := b0 ++ b)).symm.trans (with_st hn).symm) oa
         have o1 : (dl L nm).length + 1 ≤ 60 := o1
         have o2 : (b0 ++ b).length + usedR (dl L nm) ≤ 1000000 := o2
         rw [List.length_append] at o2
         exact okd_perm (with_st hn) (okd_st o1 (by rw [List.length_append]; omega))
       · have k3 : kd ≠ 3 := by omega
         have e : ∀ b, doneR L ⟨kd, nm, b⟩ = wioR L nm := fun b => by unfold doneR; rw [if_neg k1, if_neg k2, if_neg k3]
         rw [e] at oa ⊢
         exact oa
   · rw [if_neg hz]; exact o
 · rw [torn_gt h2]; exact o
theorem Rel.okd_crash (R : Rel C T rm D) : Okd (crashR D.K D.A n m) := by
 by_cases h : hlN n D.A.length < D.A.length
 · rw [crash_lt h]
   have s := R.chain.at _ h
   exact okd_torn (nam_run R.nodK) s.2.1 (R.chain.ok_at R.ok _) s.2.2.2
 · rw [crash_ge h, ← R.run]; exact R.okL
theorem nam_torn (hn : (nam L).Nodup) : (nam (tornR L a m)).Nodup := by
 unfold tornR
 split
 · exact nam_done hn
 · exact hn
theorem Rel.crash (R : Rel C T rm D) (hn : (nam C').Nodup) (hs : Sam C' (crashR D.K D.A n m)) : Rel C' [] rm { D with L := crashR D.K D.A n m, K := crashR D.K D.A n m, A := [] } := by
 refine ⟨hs, hn, ?_, R.okd_crash, rfl, .nil, R.room, R.r0, R.r1⟩
 show (nam (crashR D.K D.A n m)).Nodup
 by_cases h : hlN n D.A.length < D.A.length
 · rw [crash_lt h]; exact nam_torn (nam_run R.nodK)
 · rw [crash_ge h]; exact nam_run R.nodK
theorem Rel.pre (R : Rel C T rm D) : (∀ i, (runR D.K (D.A.take i)).length ≤ 1000) ∧ (∀ i, i < D.A.length → mayR (runR D.K (D.A.take i)) (D.A.getD i default)) ∧ ∀ i, (D.A.getD i default).b.length ≤ 1048576 := by
 refine ⟨fun i => ?_, fun i h => (R.chain.at i h).2.1, fun i => ?_⟩
 · have := (R.chain.ok_at R.ok i).1; omega
 · rcases Nat.lt_or_ge i D.A.length with h | h
   · exact (R.chain.at i h).2.2.1
   · rw [show D.A.getD i default = default by simp [List.getD, List.getElem?_eq_none h]]; exact Nat.zero_le _
end
end Go.Proofs.Ytjlhfoadabkahaa

set_option maxRecDepth 100000
set_option maxHeartbeats 8000000
set_option linter.all false
namespace Go.Proofs.Ytjlhfoadabkahaa
open Go Go.Ev
theorem stay_past {h h1 h2 : H} {p q : B → Prop} (a : Stay p h h1) (b : Stay q h1 h2) (hq : ∀ i, q i → p i ∨ B.val h.next ≤ B.val i) : Stay p h h2 :=
 ⟨b.floor.trans a.floor, Nat.le_trans a.next b.next, fun i hi hp => (b.get i (Nat.lt_of_lt_of_le hi a.next) fun e => (hq i e).elim hp fun h => absurd hi (Nat.not_lt.2 h)).trans (a.get i hi hp)⟩
section
variable {h : H} {s : B} {mp lo : V} {X : Xs} {U : List AB} {K : List Fi} {A : List DA} {n rm : Int} {i : Nat}
theorem nam_bX (hn : (nam X).Nodup) : (nam (bX X)).Nodup := by
 have e : nam (bX X) = nam X := by
   unfold nam
   show List.map _ (List.map _ _) = _
   rw [List.map_map]; rfl
 rwa [e]
theorem crash_step (c : ChainX K (U.map absA) A) (hK : (nam K).Nodup) (ok : Okd K) (hi : i < U.length) (S : ShM h s mp lo X (U.take (i + 1)) U rm) (hC : Sam (bX X) (runR K (A.take (i + 1)))) (hf : B.val h.floor ≤ B.val h.next) :
   FnOk Try.prog 56 [.p s 0 0 3, .a (actG (U.getD i default)), .i .i64 n] h fun y h' => y = .tu [] ∧ ∃ X', ShM h' s mp lo X' (U.take i) U rm ∧ Sam (bX X') (tornR (runR K (A.take i)) (A.getD i default) n) ∧
     Stay (fpS s mp lo X (U.take (i + 1))) h h' ∧ ∀ q, fpS s mp lo X' (U.take i) q → fpS s mp lo X (U.take (i + 1)) q := by
 have hiA : i < A.length := by rw [← c.len, List.length_map]; exact hi
 have eu : U.take (i + 1) = U.take i ++ [U.getD i default] := by rw [List.take_succ_eq_append_getElem hi]; simp [List.getD, hi]
 have et : (U.map absA).getD i default = absA (U.getD i default) := by simp [List.getD, hi]
 have hn := nam_bX S.nod
 have ⟨h1, _, h2⟩ := c.back hiA hn hC
 rw [et] at h1 h2
 have hp := gt_ext hn (nam_run hK) hC
 have ⟨o1, o2⟩ := okd_perm hp (c.ok_at ok (i + 1))
 rw [len_bX] at o1
 rw [eu] at S ⊢
 refine (stb_ok (n := n) S (by omega) h1 (by omega) hf).mono ?_
 rintro y h' ⟨rfl, X', e, S', t, fp⟩
 exact ⟨rfl, X', S', by rw [e]; exact h2 n, t, fp⟩
end
end Go.Proofs.Ytjlhfoadabkahaa

set_option maxRecDepth 1000000
set_option linter.all false
namespace Go.Proofs.Ytjlhfoadabkahaa
open Go Go.Ev
noncomputable abbrev s35_0 : CC := (CC.seq (CC.region [(wB 3 (doMove (tm 0))), (wB 4 (doNilCheck (tm 3))), (wB 5 (doFieldAddr 1 (tm 4))), (wB 6 (doLoad (tm 5))), (wB 7 (doCall 62 [(tm 6)])), (wB 8 (doCall 61 [(tm 7)])), (wB 2 (doMove (tm 8)))]) CC.ret)
noncomputable abbrev b35 : CC := (CC.seq (CC.region [(wB 2 (doMove (O.c V.l0)))]) s35_0)
theorem c35 : compFn Try.prog 35 = ⟨9, b35, [(Rs.tmp (slOf 2))]⟩ := by kernel_rfl
end Go.Proofs.Ytjlhfoadabkahaa

set_option maxRecDepth 100000
set_option maxHeartbeats 8000000
set_option linter.all false
namespace Go.Proofs.Ytjlhfoadabkahaa
open Go Go.Ev
section
variable {h : H} {s : B} {mp lo : V} {X : Xs} {U W : List AB} {rm : Int}
theorem names_ok (S : ShM h s mp lo X U W rm) (hk : ∀ x ∈ X, x.1.length ≤ 1048576) (hX : X.length ≤ 10000) (hf : B.val h.floor ≤ B.val h.next) :
   FnOk Try.prog 35 [.p s 0 0 3] h fun y h' => Ss 1 kC h' y (sortK (vX X)) ∧ Stay nowhere h h' ∧ ∀ p, isOf y p → B.val h.next ≤ B.val p := by
 refine fn_go c35 (by intro hb; cases hb) (by simp) (by simp) fun Q hQ => ?_
 simp only [slotsF, Nat.reduceAdd]
 repeat' (first
   | refine St.h ?_
   | simp (disch := first | omega | (simp only [lnv]; omega)) only [wlk, mwk, ↓get_put', ↓reduceIte, seval, S.own.row.l1]
   | (with_reducible (first | apply cd_split | apply gd_split)) <;> (intro hc; (try simp only [hcn] at hc); (try simp only [hc]); (try simp only [hcl] at hc); try omega))
 rcases S.map with ⟨rfl, rfl, rfl⟩ | ⟨id, rfl, m⟩
 · refine CL.mk (keys_ok (.inl rfl) hf) ?_
   rintro y h1 ⟨rfl, o1, s1, n1⟩
   repeat' (first
     | refine St.h ?_
     | simp (disch := first | omega | (simp only [lnv]; omega)) only [wlk, mwk, ↓get_put', ↓reduceIte, seval]
     | (with_reducible (first | apply cd_split | apply gd_split)) <;> (intro hc; (try simp only [hcn] at hc); (try simp only [hc]); (try simp only [hcl] at hc); try omega))
   refine CL.pure (sorted_nil o1.row) ?_
   repeat' (first
     | refine St.h ?_
     | simp (disch := first | omega | (simp only [lnv]; omega)) only [wlk, mwk, ↓get_put', ↓reduceIte, seval]
     | (with_reducible (first | apply cd_split | apply gd_split)) <;> (intro hc; (try simp only [hcn] at hc); (try simp only [hc]); (try simp only [hcl] at hc); try omega))
   subst hQ
   exact ⟨.inl ⟨rfl, by unfold sortK; simp [keysE, mp2]⟩, s1, fun p ⟨_, _, _, _, _, e⟩ => by cases e⟩
 · refine CL.mk (keys_ok (.inr ⟨id, rfl⟩) hf) ?_
   rintro y h1 ⟨rfl, o1, s1, n1⟩
   repeat' (first
     | refine St.h ?_
     | simp (disch := first | omega | (simp only [lnv]; omega)) only [wlk, mwk, ↓get_put', ↓reduceIte, seval]
     | (with_reducible (first | apply cd_split | apply gd_split)) <;> (intro hc; (try simp only [hcn] at hc); (try simp only [hc]); (try simp only [hcl] at hc); try omega))
   refine CL.mk (sorted_ok o1.row (m.stay s1 fun h => h).b (fun p hp => by obtain ⟨x, hx, rfl⟩ := mem_vX hp; exact hk x hx) (by rw [len_X]; exact hX) (s1.fl hf)) ?_
   rintro y h2 ⟨q1, s2, q2⟩
   repeat' (first
     | refine St.h ?_
     | simp (disch := first | omega | (simp only [lnv]; omega)) only [wlk, mwk, ↓get_put', ↓reduceIte, seval]
     | (with_reducible (first | apply cd_split | apply gd_split)) <;> (intro hc; (try simp only [hcn] at hc); (try simp only [hc]); (try simp only [hcl] at hc); try omega))
   subst hQ
   exact ⟨q1, s1.trans s2, fun p hp => by have := q2 p hp; omega⟩
end
end Go.Proofs.Ytjlhfoadabkahaa

set_option maxRecDepth 100000
set_option maxHeartbeats 8000000
set_option linter.all false
namespace Go.Proofs.Ytjlhfoadabkahaa
open Go Go.Ev
section
variable {L K : List Fi} {k : List UInt8} {f : Fi} {a : DA} {A : List DA} {X : Xs} {T : List AC} {rm : Int} {D : DS}
def Srt (L : List Fi) : Prop := (nam L).Pairwise (· < ·)
theorem srt_wio (h : Srt L) : Srt (wioR L k) := List.Pairwise.sublist ((List.filter_sublist).map _) h
theorem srt_ins (h : Srt L) (hn : gt L f.1 = none) : Srt (insR L f) := by
 induction L with
 | nil => exact List.pairwise_singleton ..
 | cons a r ih =>
   have h' : (a.1 :: nam r).Pairwise (· < ·) := h
   rw [List.pairwise_cons] at h'
   rw [gt_c] at hn
   have h1 : ¬ f.1 = a.1 := fun e => by rw [if_pos e] at hn; cases hn
   rw [if_neg h1] at hn
   rw [insR_c, bytesLess_eq]
   by_cases e : f.1 < a.1
   · rw [if_pos (decide_eq_true e)]
     show (f.1 :: a.1 :: nam r).Pairwise (· < ·)
     rw [List.pairwise_cons]
     refine ⟨fun x hx => ?_, h⟩
     rcases List.mem_cons.1 hx with rfl | hx
     · exact e
     · exact List.lt_trans e (h'.1 x hx)
   · rw [if_neg (by rw [decide_eq_false e]; decide)]
     show (a.1 :: nam (insR r f)).Pairwise (· < ·)
     rw [List.pairwise_cons]
     refine ⟨fun x hx => ?_, ih h'.2 hn⟩
     have p : (nam (insR r f)).Perm (f.1 :: nam r) := (ins_perm (L := r) (f := f)).map _
     rcases List.mem_cons.1 (p.mem_iff.1 hx) with rfl | hx
     · exact Decidable.byContradiction fun h => h1 (List.le_antisymm (List.not_lt.1 h) (List.not_lt.1 e))
     · exact h'.1 x hx
theorem srt_with (h : Srt L) : Srt (withR L f) := srt_ins (srt_wio h) (by rw [gt_wio, if_pos rfl])
theorem srt_done (h : Srt L) : Srt (doneR L a) := by
 unfold doneR
 repeat' split
 all_goals first | exact srt_with h | exact h | exact srt_with (srt_wio h) | exact srt_wio h
theorem srt_run (h : Srt K) : Srt (runR K A) := by
 unfold runR
 induction A generalizing K with
 | nil => exact h
 | cons a r ih => exact ih (srt_done h)
theorem srt_crash {n m : Int} (h : Srt K) : Srt (crashR K A n m) := by
 by_cases e : hlN n A.length < A.length
 · rw [crash_lt e]
   unfold tornR
   split
   · exact srt_done (srt_run h)
   · exact srt_run h
 · rw [crash_ge e]; exact srt_run h
theorem names_eq (R : Rel (bX X) T rm D) (h : Srt D.L) : sortK (vX X) = nam D.L := by
 have e : keysE (vX X) = nam (bX X) := by
   unfold keysE nam
   show List.map _ (List.map _ X) = List.map _ (List.map _ X)
   rw [List.map_map, List.map_map]; rfl
 unfold sortK
 have p : (nam (bX X)).Perm (nam D.L) := R.perm.map _
 rw [e, mergeSort_of_perm p]
 exact List.mergeSort_of_pairwise (List.Pairwise.imp (fun {x y} h => decide_eq_true (List.le_of_lt h)) h)
end
end Go.Proofs.Ytjlhfoadabkahaa

set_option maxRecDepth 1000000
set_option linter.all false
namespace Go.Proofs.Ytjlhfoadabkahaa
open Go Go.Ev
noncomputable abbrev s33_0 : CC := (CC.seq (CC.region [(wB 4 (doMove (O.c (V.b Bool.false))))]) CC.ret)
noncomputable abbrev s33_1 : CC := (CC.cond (tm 42) s33_0 CC.skip)
noncomputable abbrev s33_2 : CC := (CC.seq (CC.draws [(uB 11 (doMove (tm 5))), (uB 12 (doLen (tm 11))), (uB 13 (doMove (tm 1))), (wB 14 (doNilCheck (tm 13))), (uB 15 (doFieldAddr 0 (tm 14))), (wB 16 (doLoad (tm 15))), (uB 17 (doLen (tm 16))), (uB 18 (bin2 fNeq (tm 12) (tm 17))), (uB 19 (doMove (tm 18))), (uG 19 false 20 (doMove (tm 0))), (wG 19 false 21 (doCall 36 [(tm 20)])), (uG 19 false 22 (doMove (tm 1))), (wG 19 false 23 (doCall 60 [(tm 22)])), (uG 19 false 24 (bin2 fNeq (tm 21) (tm 23))), (uB 25 (doPick (tm 19) (O.c (V.b Bool.true)) (tm 24))), (uB 26 (doMove (tm 25))), (uG 26 false 27 (doMove (tm 0))), (wG 26 false 28 (doCall 48 [(tm 27)])), (uG 26 false 29 (doMove (tm 1))), (wG 26 false 30 (doCall 53 [(tm 29)])), (uG 26 false 31 (bin2 fNeq (tm 28) (tm 30))), (uB 32 (doPick (tm 26) (O.c (V.b Bool.true)) (tm 31))), (uB 33 (doMove (tm 32))), (uG 33 false 34 (doMove (tm 0))), (uG 33 false 35 (doCall 34 [(tm 34)])), (uG 33 false 36 (doMove (tm 1))), (uG 33 false 37 (doNilCheck (tm 36))), (uG 33 false 38 (doFieldAddr 2 (tm 37))), (uG 33 false 39 (doLoad (tm 38))), (uG 33 false 40 (doLen (tm 39))), (uG 33 false 41 (bin2 fNeq (tm 35) (tm 40))), (uB 42 (doPick (tm 33) (O.c (V.b Bool.true)) (tm 41)))]) s33_1)
noncomputable abbrev s33_3 : CC := (CC.cond (tm 46) CC.skip (CC.exit 0))
noncomputable abbrev s33_4 : CC := (CC.seq (CC.region [(wB 43 (doMove (tm 6))), (wB 44 (doMove (tm 5))), (wB 45 (doLen (tm 44))), (wB 46 (bin2 fLss (tm 43) (tm 45)))]) s33_3)
noncomputable abbrev s33_5 : CC := (CC.seq (CC.region [(wB 4 (doMove (O.c (V.b Bool.false))))]) CC.ret)
noncomputable abbrev s33_6 : CC := (CC.cond (tm 86) s33_5 CC.skip)
noncomputable abbrev s33_7 : CC := (CC.seq (CC.draws [(uB 58 (doMove (tm 5))), (uB 59 (doMove (tm 6))), (uB 60 (doIndexAddr 1 (tm 58) (tm 59))), (uB 61 (doLoad (tm 60))), (uB 62 (doMove (tm 1))), (uB 63 (doNilCheck (tm 62))), (uB 64 (doFieldAddr 0 (tm 63))), (uB 65 (doLoad (tm 64))), (uB 66 (doMove (tm 6))), (uB 67 (doIndexAddr 2 (tm 65) (tm 66))), (uB 68 (doFieldAddr 0 (tm 67))), (uB 69 (doLoad (tm 68))), (uB 70 (doSCmp (fun a b c d => !eqS a b c d) (tm 61) (tm 69))), (uB 71 (doMove (tm 70))), (uG 71 false 72 (doMove (tm 7))), (uG 71 false 73 (doMove (tm 1))), (wG 71 false 74 (doNilCheck (tm 73))), (uG 71 false 75 (doFieldAddr 0 (tm 74))), (wG 71 false 76 (doLoad (tm 75))), (uG 71 false 77 (doMove (tm 6))), (uG 71 false 78 (doIndexAddr 2 (tm 76) (tm 77))), (uG 71 false 79 (doFieldAddr 1 (tm 78))), (wG 71 false 80 (doLoad (tm 79))), (uG 71 false 81 (doSCmp (fun a b c d => !eqS a b c d) (tm 72) (tm 80))), (uB 82 (doPick (tm 71) (O.c (V.b Bool.true)) (tm 81))), (uB 83 (doMove (tm 82))), (uG 83 false 84 (doMove (tm 8))), (uG 83 false 85 (bin2 fNeq (tm 84) (oN 0))), (uB 86 (doPick (tm 83) (O.c (V.b Bool.true)) (tm 85)))]) s33_6)
noncomputable abbrev s33_8 : CC := (CC.seq (CC.region [(wB 50 (doMove (tm 0))), (wB 51 (doMove (tm 5))), (wB 52 (doMove (tm 6))), (wB 53 (doIndexAddr 1 (tm 51) (tm 52))), (wB 54 (doLoad (tm 53))), (wB 55 (doCall 31 [(tm 50), (tm 54)])), (wB 49 (doMove (tm 55))), (wB 56 (doExtract 0 (tm 49))), (wB 57 (doExtract 1 (tm 49))), (wB 7 (doMove (tm 56))), (wB 8 (doMove (tm 57)))]) s33_7)
noncomputable abbrev s33_9 : CC := (CC.block 1 s33_8)
noncomputable abbrev s33_10 : CC := (CC.region [(wB 47 (doMove (tm 6))), (wB 48 (bin2 fAdd (tm 47) (oN 1))), (wB 6 (doMove (tm 48)))])
noncomputable abbrev s33_11 : CC := (CC.seq s33_9 s33_10)
noncomputable abbrev l33_0 : CC := (CC.seq s33_4 s33_11)
noncomputable abbrev s33_12 : CC := (CC.loop l33_0)
noncomputable abbrev s33_13 : CC := (CC.block 0 s33_12)
noncomputable abbrev s33_14 : CC := (CC.seq (CC.region [(wB 6 (doMove (oN 0)))]) s33_13)
noncomputable abbrev s33_15 : CC := (CC.seq (CC.region [(wB 4 (doMove (O.c (V.b Bool.true))))]) CC.ret)
noncomputable abbrev s33_16 : CC := (CC.seq s33_14 s33_15)
noncomputable abbrev s33_17 : CC := (CC.seq s33_2 s33_16)
noncomputable abbrev s33_18 : CC := (CC.seq (CC.region [(wB 9 (doMove (tm 0))), (wB 10 (doCall 35 [(tm 9)])), (wB 5 (doMove (tm 10)))]) s33_17)
noncomputable abbrev b33 : CC := (CC.seq (CC.region [(wB 4 (doMove (O.c (V.b Bool.false))))]) s33_18)
theorem c33 : compFn Try.prog 33 = ⟨87, b33, [(Rs.tmp (slOf 4))]⟩ := by kernel_rfl
end Go.Proofs.Ytjlhfoadabkahaa

set_option maxRecDepth 100000
set_option maxHeartbeats 8000000
set_option linter.all false
namespace Go.Proofs.Ytjlhfoadabkahaa
open Go Go.Ev
section
variable {P : Program} {N : Nx} {h : H} {s r : B} {mp lo v vL vK vA : V} {X : Xs} {U : List AB} {rm : Int} {D : DS} {L : List (List UInt8)} {i : Nat}
theorem k_l0 (a : Ss 1 kC h v L) (hi : i < L.length) : L1 P (lid v) (lg v) (loff v + i) (lfin v) h N = N.go P (sv (L.getD i default)) h := by
 have e : L1 P (lid v) (lg v) (loff v + i * 1 + 0) (lfin v) h N = N.go P (sv (L.getD i default)) h := Ss.ld (d := 0) a (fun _ => rfl) hi (by omega)
 rwa [Nat.mul_one] at e
theorem nam_at {M : List Fi} (hi : i < M.length) : (nam M).getD i default = (M.getD i default).1 := by unfold nam; simp [List.getD, hi]
theorem gt_at {M : List Fi} (hn : (nam M).Nodup) (hi : i < M.length) : gt M (M.getD i default).1 = some (M.getD i default).2 := by
 induction M generalizing i with
 | nil => simp at hi
 | cons a r ih =>
   have hn' : (a.1 :: nam r).Nodup := hn
   rw [List.nodup_cons] at hn'
   rw [gt_c]
   cases i with
   | zero => exact if_pos rfl
   | succ i =>
     have hi' : i < r.length := by simpa using hi
     have e : (a :: r).getD (i + 1) default = r.getD i default := by simp [List.getD]
     rw [e, if_neg, ih hn'.2 hi']
     intro e2
     have : gt r a.1 = some (r.getD i default).2 := by rw [← e2]; exact ih hn'.2 hi'
     exact hn'.1 (Decidable.not_not.1 fun hc => by rw [gt_none.2 hc] at this; cases this)
theorem alike_ok (S : ShM h s mp lo X U U rm) (Sr : RfS h r vL vK vA D) (R : Rel (bX X) (U.map absA) rm D) (hs : Srt D.L) (hk : ∀ x ∈ X, x.1.length ≤ 1048576) (hU : U.length ≤ 10000) (hf : B.val h.floor ≤ B.val h.next) :
   FnOk Try.prog 33 [.p s 0 0 3, .p r 0 0 4] h fun y h' => y = .b true ∧ Stay nowhere h h' := by
 have okL := R.okL
 have hlen : X.length = D.L.length := by rw [← len_bX]; exact R.len
 have hus := R.used
 have hac : U.length = D.A.length := by have := R.acts; rwa [List.length_map] at this
 have hroom := R.room
 have r0 := R.r0
 have r1 := R.r1
 have ol1 := okL.1
 have ol2 := okL.2
 refine fn_go c33 (by intro hb; cases hb) (by simp) (by simp) fun Q hQ => ?_
 simp only [slotsF, Nat.reduceAdd]
 repeat' (first
   | refine St.h ?_
   | simp (disch := first | omega | (simp only [lnv]; omega)) only [wlk, mwk, ↓get_put', ↓reduceIte, seval]
   | (with_reducible (first | apply cd_split | apply gd_split)) <;> (intro hc; (try simp only [hcn] at hc); (try simp only [hc]); (try simp only [hcl] at hc); try omega))
 refine CL.mk (names_ok S hk (by omega) hf) ?_
 rintro v h1 ⟨hN, s1, _⟩
 rw [names_eq R hs] at hN
 have S1 := S.stay s1 fun _ _ h => h
 have Sr1 := Sr.stay s1 fun _ _ h => h
 have hnl : (nam D.L).length = D.L.length := List.length_map ..
 have hf1 := s1.fl hf
 repeat' (first
   | refine St.h ?_
   | simp (disch := first | omega | (simp only [lnv]; omega)) only [wlk, mwk, ↓get_put', ↓reduceIte, seval, hN.ln, Sr1.own.row.l1, Sr1.l.ln, hnl]
   | (with_reducible (first | apply cd_split | apply gd_split)) <;> (intro hc; (try simp only [hcn] at hc); (try simp only [hc]); (try simp only [hcl] at hc); try omega))
 refine CL.pure (sused_ok S1 (by omega)) ?_
 repeat' (first
   | refine St.h ?_
   | simp (disch := first | omega | (simp only [lnv]; omega)) only [wlk, mwk, ↓get_put', ↓reduceIte, seval, Sr1.own.row.l1, Sr1.l.ln]
   | (with_reducible (first | apply cd_split | apply gd_split)) <;> (intro hc; (try simp only [hcn] at hc); (try simp only [hc]); (try simp only [hcl] at hc); try omega))
 refine CL.pure (rused_ok Sr1.own.row (by omega) Sr1.l (by omega) (by omega)) ?_
 repeat' (first
   | refine St.h ?_
   | simp (disch := first | omega | (simp only [lnv]; omega)) only [wlk, mwk, ↓get_put', ↓reduceIte, seval, Sr1.own.row.l1, Sr1.l.ln, hus]
   | (with_reducible (first | apply cd_split | apply gd_split)) <;> (intro hc; (try simp only [hcn] at hc); (try simp only [hc]); (try simp only [hcl] at hc); try omega))
 refine CL.pure (sleft_ok S1 (by omega) (by omega) (by omega)) ?_
 repeat' (first
   | refine St.h ?_
   | simp (disch := first | omega | (simp only [lnv]; omega)) only [wlk, mwk, ↓get_put', ↓reduceIte, seval, Sr1.own.row.l1, Sr1.l.ln, hus]
   | (with_reducible (first | apply cd_split | apply gd_split)) <;> (intro hc; (try simp only [hcn] at hc); (try simp only [hc]); (try simp only [hcl] at hc); try omega))
 refine CL.pure (rleft_ok Sr1.own.row (by omega) Sr1.l (by omega) (by omega) r0 r1) ?_
 have em : max (rm - (usedR D.L : Int)) 0 = max 0 (D.most - (usedR D.L : Int)) := by omega
 repeat' (first
   | refine St.h ?_
   | simp (disch := first | omega | (simp only [lnv]; omega)) only [wlk, mwk, ↓get_put', ↓reduceIte, seval, Sr1.own.row.l1, Sr1.l.ln, hus, em]
   | (with_reducible (first | apply cd_split | apply gd_split)) <;> (intro hc; (try simp only [hcn] at hc); (try simp only [hc]); (try simp only [hcl] at hc); try omega))
 have hbl : Ss 6 actG h1 lo U := Ss.buf S1.buf rfl actG_len (by omega)
 refine CL.pure (loose_ok (n := U.length) (row_re S1.own.row) (by omega) fun N => (ss_re hbl).ln) ?_
 repeat' (first
   | refine St.h ?_
   | simp (disch := first | omega | (simp only [lnv]; omega)) only [wlk, mwk, ↓get_put', ↓reduceIte, seval, Sr1.own.row.l1, Sr1.a.ln, hac]
   | (with_reducible (first | apply cd_split | apply gd_split)) <;> (intro hc; (try simp only [hcn] at hc); (try simp only [hc]); (try simp only [hcl] at hc); try omega))
 refine Ok.lp (fun m t g => ∃ i : Nat, m = D.L.length - i ∧ i ≤ D.L.length ∧ h1 = g ∧ get 0 t = .p s 0 0 3 ∧ get 1 t = .p r 0 0 4 ∧ get 5 t = v ∧ get 6 t = .i .i64 (i : Int)) D.L.length ?_ ?_
 · simp (disch := first | omega | (simp only [lnv]; omega)) only [wlk, mwk, ↓get_put', ↓reduceIte, seval]
   exact ⟨0, by omega, by omega, trivial, trivial, trivial, trivial, rfl⟩
 rintro I hI m t g ⟨i, rfl, hi, rfl, e0, e1, e5, e6⟩
 repeat' (first
   | refine St.h ?_
   | simp (disch := first | omega | (simp only [lnv]; omega)) only [wlk, mwk, ↓get_put', ↓reduceIte, seval, e0, e1, e5, e6, hN.ln, hnl]
   | (with_reducible (first | apply cd_split | apply gd_split)) <;> (intro hc; (try simp only [hcn] at hc); (try simp only [hc]); (try simp only [hcl] at hc); try omega))
 · have hi' : i < D.L.length := by omega
   have q1 := nam_at hi'
   have sg := sget_ok S1 (k := (D.L.getD i default).1)
   rw [R.sam, gt_at R.nodL hi', if_neg (by simp), Option.getD_some] at sg
   repeat' (first
     | refine St.h ?_
     | simp (disch := first | omega | (simp only [lnv]; omega)) only [wlk, mwk, ↓get_put', ↓reduceIte, seval, e0, e1, e5, e6, hN.ix, hnl, k_l0 hN, q1, Int.toNat_natCast]
     | (with_reducible (first | apply cd_split | apply gd_split)) <;> (intro hc; (try simp only [hcn] at hc); (try simp only [hc]); (try simp only [hcl] at hc); try omega))
   refine CL.pure sg ?_
   repeat' (first
     | refine St.h ?_
     | simp (disch := first | omega | (simp only [lnv]; omega)) only [wlk, mwk, ↓get_put', ↓reduceIte, seval, e0, e1, e5, e6, hN.ix, hnl, k_l0 hN, q1, Int.toNat_natCast, Sr1.own.row.l1, Sr1.l.ix, fi_l0 Sr1.l, fi_l1 Sr1.l]
     | (with_reducible (first | apply cd_split | apply gd_split)) <;> (intro hc; (try simp only [hcn] at hc); (try simp only [hc]); (try simp only [hcl] at hc); try omega))
   refine lp_next hI (D.L.length - (i + 1)) (by omega) ⟨i + 1, rfl, by omega, rfl, by simp (disch := first | omega | (simp only [lnv]; omega)) only [wlk, mwk, ↓get_put', ↓reduceIte, seval, e0], by simp (disch := first | omega | (simp only [lnv]; omega)) only [wlk, mwk, ↓get_put', ↓reduceIte, seval, e1], by simp (disch := first | omega | (simp only [lnv]; omega)) only [wlk, mwk, ↓get_put', ↓reduceIte, seval, e5], by simp (disch := first | omega | (simp only [lnv]; omega)) only [wlk, mwk, ↓get_put', ↓reduceIte, seval, e6]; rfl⟩
 · subst hQ
   exact ⟨rfl, s1⟩
end
end Go.Proofs.Ytjlhfoadabkahaa

set_option maxRecDepth 100000
set_option maxHeartbeats 8000000
set_option linter.all false
namespace Go.Proofs.Ytjlhfoadabkahaa
open Go Go.Ev
section
variable {h h1 h2 : H} {s r : B} {mp lo vL vK vA : V} {X : Xs} {U : List AB} {rm n m : Int} {D D' : DS} {C' : List Fi} {T' : List AC} {k b : List UInt8}
theorem rkeep_aft (S : RfS h r vL vK vA D) (hf : B.val h.floor ≤ B.val h.next) : FnOk Try.prog 25 [.p r 0 0 4] h fun y h' => y = .tu [] ∧ AftR h h' r vL vK vA { D with K := D.L, A := [] } := by
 refine (rkeep_ok S hf).mono ?_
 rintro y h' ⟨rfl, S', st⟩
 refine ⟨rfl, _, _, _, S', st, ?_⟩
 rintro q (e | e | e | ⟨_, _, _, _, _, e⟩)
 · exact .inl (.inl e)
 · exact .inl (.inr (.inl e))
 · exact .inl (.inr (.inl e))
 · cases e
theorem rroom_aft (S : RfS h r vL vK vA D) (hf : B.val h.floor ≤ B.val h.next) : FnOk Try.prog 27 [.p r 0 0 4, .i .i64 n] h fun y h' => y = .tu [] ∧ AftR h h' r vL vK vA { D with most := max 0 (min n 1000000) } := by
 refine (rroom_ok S hf).mono ?_
 rintro y h' ⟨rfl, S', st⟩
 exact ⟨rfl, _, _, _, S', st, fun q hq => .inl hq⟩
theorem rcrash_aft (S : RfS h r vL vK vA D) {C : List Fi} {T : List AC} (R : Rel C T rm D) (hla : D.A.length ≤ 1000) (hf : B.val h.floor ≤ B.val h.next) : FnOk Try.prog 29 [.p r 0 0 4, .i .i64 n, .i .i64 m] h fun y h' => y = .tu [] ∧ AftR h h' r vL vK vA { D with L := crashR D.K D.A n m, K := crashR D.K D.A n m, A := [] } := by
 have ⟨p1, p2, p3⟩ := R.pre
 refine (rcrash_ok S hla p1 p2 p3 hf).mono ?_
 rintro y h' ⟨rfl, u, S', st, ho⟩
 refine ⟨rfl, _, _, _, S', st, ?_⟩
 rintro q (e | e | e | ⟨_, _, _, _, _, e⟩)
 · exact .inl (.inl e)
 · exact (ho q e).imp_left fun e => .inr (.inr (.inl e))
 · exact (ho q e).imp_left fun e => .inr (.inr (.inl e))
 · cases e
end
end Go.Proofs.Ytjlhfoadabkahaa

set_option maxRecDepth 1000000
set_option linter.all false
namespace Go.Proofs.Ytjlhfoadabkahaa
open Go Go.Ev
noncomputable abbrev s30_0 : CC := (CC.draws [(uB 8 (doMove (tm 0))), (uB 9 (doNilCheck (tm 8))), (uB 10 (doFieldAddr 0 (tm 9))), (uB 11 (doLoad (tm 10))), (uB 12 (doMove (tm 0))), (uB 13 (doNilCheck (tm 12))), (uB 14 (doFieldAddr 1 (tm 13))), (uB 15 (doLoad (tm 14))), (uB 16 (doMapLen (tm 15))), (uB 17 (doMakeMap (some (tm 16)))), (uB 18 (doMove (tm 0))), (uB 19 (doNilCheck (tm 18))), (uB 20 (doFieldAddr 2 (tm 19))), (uB 21 (doLoad (tm 20))), (uB 22 (doCall 58 [(tm 21)])), (uB 23 (doBuild [(V.i IntKind.i64 (Int.ofNat 0)), V.m0, V.l0] [(Pt.mk 0 1 (tm 11)), (Pt.mk 1 1 (tm 17)), (Pt.mk 2 1 (tm 22))])), (wB 24 (doBox 76 (tm 23))), (uB 3 (doMove (tm 24)))])
noncomputable abbrev r30_0 : RgP := (RgP.mk [(wB 25 (doMove (tm 0))), (wB 26 (doNilCheck (tm 25))), (wB 27 (doFieldAddr 1 (tm 26))), (wB 28 (doLoad (tm 27)))] (Operand.tmp 28) 29 [(wB 31 (doExtract 0 (tm 30)))] (Operand.tmp 31) 0 1 30 32 [(wB 33 (doExtract 0 (tm 32))), (wB 34 (doExtract 1 (tm 32))), (wB 4 (doMove (tm 33))), (wB 5 (doMove (tm 34)))])
noncomputable abbrev s30_1 : CC := (CC.draws [(uB 35 (doMove (tm 3))), (uB 36 (doNilCheck (tm 35))), (uB 37 (doFieldAddr 1 (tm 36))), (uB 38 (doLoad (tm 37))), (uB 39 (doMove (tm 4))), (uB 40 (doMove (tm 5))), (uB 41 (doCall 59 [(tm 40)])), (CO.mk G.none D.none Bool.true (CR.mk (doMapSet none (tm 38) (tm 39) (tm 41))))])
noncomputable abbrev s30_2 : Sh := (Sh.cc s30_1)
noncomputable abbrev s30_3 : CC := (CC.cond (tm 48) CC.skip (CC.exit 2))
noncomputable abbrev s30_4 : CC := (CC.draws [(uB 52 (doMove (tm 3))), (uB 53 (doNilCheck (tm 52))), (uB 54 (doFieldAddr 2 (tm 53))), (uB 55 (doLoad (tm 54))), (uB 56 (doMove (tm 6))), (uB 57 (doFieldAddr 4 (tm 7))), (uB 58 (doLoad (tm 57))), (uB 59 (doCall 59 [(tm 58)])), (uB 60 (doIndexAddr 6 (tm 55) (tm 56))), (uB 61 (doFieldAddr 4 (tm 60))), (CO.mk G.none D.none Bool.true (CR.mk (doStore 1 (tm 61) (tm 59))))])
noncomputable abbrev s30_5 : CC := (CC.seq (CC.region [(wB 49 (doMove (tm 47))), (wB 50 (doIndexAddr 6 (tm 45) (tm 47))), (wB 51 (doLoadA 6 (tm 50))), (wB 7 (doAlloc 84 [(V.i IntKind.i64 (Int.ofNat 0)), (V.s 0 0), (V.s 0 0), (V.i IntKind.i64 (Int.ofNat 0)), V.l0, (V.b Bool.false)])), (wB 6 (doMove (tm 49))), (CO.mk G.none D.none Bool.true (CR.mk (doStore 6 (tm 7) (tm 51))))]) s30_4)
noncomputable abbrev s30_6 : CC := (CC.block 3 s30_5)
noncomputable abbrev s30_7 : CC := (CC.region [(wB 62 (bin2 fAdd (tm 47) (oN 1))), (wB 47 (doMove (tm 62)))])
noncomputable abbrev s30_8 : CC := (CC.seq s30_6 s30_7)
noncomputable abbrev s30_9 : CC := (CC.seq s30_3 s30_8)
noncomputable abbrev l30_0 : CC := (CC.seq (CC.region [(wB 48 (bin2 fLss (tm 47) (tm 46)))]) s30_9)
noncomputable abbrev s30_10 : CC := (CC.loop l30_0)
noncomputable abbrev s30_11 : CC := (CC.block 2 s30_10)
noncomputable abbrev s30_12 : CC := (CC.seq (CC.region [(wB 42 (doMove (tm 3))), (wB 43 (doNilCheck (tm 42))), (wB 44 (doFieldAddr 2 (tm 43))), (wB 45 (doLoad (tm 44))), (wB 46 (doLen (tm 45))), (wB 47 (doMove (oN 0)))]) s30_11)
noncomputable abbrev s30_13 : CC := (CC.seq (CC.region [(wB 63 (doMove (tm 3))), (wB 2 (doMove (tm 63)))]) CC.ret)
noncomputable abbrev s30_14 : CC := (CC.seq s30_12 s30_13)
noncomputable abbrev s30_15 : Sh := (Sh.cc s30_14)
noncomputable abbrev s30_16 : Sh := (Sh.seq (Sh.rng r30_0 s30_2) s30_15)
noncomputable abbrev s30_17 : Sh := (Sh.seq (Sh.cc s30_0) s30_16)
noncomputable abbrev b30 : Sh := (Sh.seq (Sh.cc (CC.region [(wB 2 (doMove (O.c V.p0)))])) s30_17)
theorem cs30 : shFnN Try.prog [] 30 = ⟨64, b30, [(Rs.tmp (slOf 2))]⟩ := by kernel_rfl
end Go.Proofs.Ytjlhfoadabkahaa

set_option maxRecDepth 1000000
set_option linter.all false
namespace Go.Proofs.Ytjlhfoadabkahaa
open Go Go.Ev
noncomputable abbrev s59_0 : CC := (CC.seq (CC.region [(wB 2 (doMove (O.c V.l0)))]) CC.ret)
noncomputable abbrev s59_1 : CC := (CC.cond (tm 4) s59_0 CC.skip)
noncomputable abbrev s59_2 : CC := (CC.seq (CC.region [(wB 3 (doMove (tm 0))), (wB 4 (doNil vLN Bool.false (tm 3) (O.c V.l0)))]) s59_1)
noncomputable abbrev s59_3 : CC := (CC.seq (CC.region [(wB 5 (doBuildSlice 5 0 [] [])), (wB 6 (doMove (tm 0))), (wB 7 (doAppend 5 1 (tm 5) (tm 6))), (wB 2 (doMove (tm 7)))]) CC.ret)
noncomputable abbrev s59_4 : CC := (CC.seq s59_2 s59_3)
noncomputable abbrev b59 : CC := (CC.seq (CC.region [(wB 2 (doMove (O.c V.l0)))]) s59_4)
theorem c59 : compFn Try.prog 59 = ⟨8, b59, [(Rs.tmp (slOf 2))]⟩ := by kernel_rfl
noncomputable abbrev s58_0 : CC := (CC.seq (CC.region [(wB 2 (doMove (O.c V.l0)))]) CC.ret)
noncomputable abbrev s58_1 : CC := (CC.cond (tm 4) s58_0 CC.skip)
noncomputable abbrev s58_2 : CC := (CC.seq (CC.region [(wB 3 (doMove (tm 0))), (wB 4 (doNil vLN Bool.false (tm 3) (O.c V.l0)))]) s58_1)
noncomputable abbrev s58_3 : CC := (CC.seq (CC.region [(wB 5 (doBuildSlice 84 0 [] [])), (wB 6 (doMove (tm 0))), (wB 7 (doAppend 84 6 (tm 5) (tm 6))), (wB 2 (doMove (tm 7)))]) CC.ret)
noncomputable abbrev s58_4 : CC := (CC.seq s58_2 s58_3)
noncomputable abbrev b58 : CC := (CC.seq (CC.region [(wB 2 (doMove (O.c V.l0)))]) s58_4)
theorem c58 : compFn Try.prog 58 = ⟨8, b58, [(Rs.tmp (slOf 2))]⟩ := by kernel_rfl
end Go.Proofs.Ytjlhfoadabkahaa

set_option maxRecDepth 100000
set_option maxHeartbeats 8000000
set_option linter.all false
namespace Go.Proofs.Ytjlhfoadabkahaa
open Go Go.Ev
structure OwnX (h : H) (id : B) (el : Nat) (xs : List V) : Prop where
 ex : ∃ blk, h.heap.get id = some blk ∧ blk.cur = 0 ∧ blk.min = 0 ∧ blk.fr = 0 ∧ blk.el = el ∧ blk.size = xs.length ∧ ∀ i y, xs[i]? = some y → blk.cells.getN i = some y
 fl : B.val h.floor ≤ B.val id
 lt : B.val id < B.val h.next
section
variable {h h' : H} {N : Nx} {id : B} {el : Nat} {xs : List V} {v : V} {bs : List UInt8}
theorem OwnX.own (o : OwnX h id el xs) : Ev.Own h id xs := by
 obtain ⟨⟨blk, h1, h2, h3, h4, h5, h6, h7⟩, f, l⟩ := o
 exact ⟨blk, h1, h2, h3, h4, f, l, h7⟩
theorem OwnX.stay {p : B → Prop} (o : OwnX h id el xs) (s : Stay p h h') (hp : ¬ p id) : OwnX h' id el xs := by
 obtain ⟨⟨blk, h1, h2⟩, f, l⟩ := o
 exact ⟨⟨blk, (s.get id l hp).trans h1, h2⟩, by rw [s.floor]; exact f, Nat.lt_of_lt_of_le l s.next⟩
theorem AP.empty {P : Program} {size cnt : Nat} {x : V} {vs : List V} {g off fin : Nat} (hx : ∀ k : Nat → List V → Bool, newCells size x h k = k cnt vs) (hf : B.val h.floor ≤ B.val h.next) (hn : vs.length = cnt * size) (hc : 1 ≤ cnt) (hl : cnt ≤ 1048576) (hl2 : vs.length < 2 ^ 38)
   (k : ∀ h', Stay nowhere h h' → B.val h'.next = B.val h.next + 1 → OwnX h' h.next el vs → N.go P (.l h.next 0 0 cnt (cnt * size) none) h') : AP P el size (.l id g off 0 fin (some 0)) x h N := by
 obtain ⟨h', a1, a2, a3, blk, b1, b2, b3, b4, b5, b6, b7⟩ := alloc_new el vs h hl2
 obtain ⟨m, rfl⟩ : ∃ m, cnt = m + 1 := ⟨cnt - 1, by omega⟩
 have hble : Nat.ble (Nat.add 0 (m + 1)) 1048576 = true := by rw [Nat.ble_eq]; show 0 + (m + 1) ≤ _; omega
 have hno : Nat.ble (Nat.add 0 (m + 1)) 0 = false := by
   cases hx : Nat.ble (Nat.add 0 (m + 1)) 0 with
   | false => rfl
   | true => have := Nat.le_of_ble_eq_true hx; have h2 : 0 + (m + 1) ≤ 0 := this; omega
 refine hm_of (v := .l h.next 0 0 (m + 1) ((m + 1) * size) none) (h' := h') (fun q => ?_) (k h' a2 a3 ⟨⟨blk, b1, b3, b2, b6, b5, b4, b7⟩, by rw [a2.floor]; exact hf, by omega⟩)
 rw [hx]
 show boolK (flagB 0) (fun _ => appGrow (selB (Nat.ble 1 0) (Nat.beq size 1)) el id g off 0 fin size (m + 1) vs h q) (fun _ => boolK (Nat.ble (Nat.add 0 (m + 1)) 0) (fun _ => appIn id g off 0 fin 0 size (m + 1) vs h q) fun _ => appOut el id g off 0 fin size (m + 1) vs h q) = _
 rw [flagB_of (by omega), boolK_false, hno, boolK_false]
 unfold appOut
 rw [hble, ifK_true]
 show alloc el (app [] vs) h (fun id h => fN (Nat.add 0 (m + 1)) fun l' => fN (Nat.mul l' size) fun fin' => q (.l id 0 0 l' fin' none) h) = _
 rw [app_eq, List.nil_append, a1, fN_eq, fN_eq]
 show q (.l h.next 0 0 (0 + (m + 1)) ((0 + (m + 1)) * size) none) h' = _
 rw [Nat.zero_add]
theorem AP.empty0 {P : Program} {size : Nat} {x : V} {g off fin : Nat} (hx : ∀ k : Nat → List V → Bool, newCells size x h k = k 0 []) (k : N.go P (.l id g off 0 fin (some 0)) h) : AP P el size (.l id g off 0 fin (some 0)) x h N :=
 hm_of (v := .l id g off 0 fin (some 0)) (h' := h) (fun q => by rw [hx]; rfl) k
def FileR (n0 : B) (h : H) (v : V) (bs : List UInt8) : Prop :=
 (bs = [] ∧ ∃ id g off fin cap, v = .l id g off 0 fin cap) ∨ ∃ q g cap, v = .l q g 0 bs.length bs.length cap ∧ B.val q < B.val n0 ∧ Row h q g 0 (bs.map bv)
theorem FileM.r (a : FileM h v bs) : FileR h.next h v bs := by
 rcases a with ⟨rfl, id, g, off, fin, rfl⟩ | ⟨q, g, blk, rfl, a1, a2, a3, a4, a5, a6, a7, a8, a9⟩
 · exact .inl ⟨rfl, _, _, _, _, _, rfl⟩
 · refine .inr ⟨q, g, _, rfl, a2, fun _ => ⟨blk, a3, a4⟩, fun i y hy => ?_⟩
   unfold Ev.cell cellB
   rw [a3]
   show (if blk.min ≤ g then blk.cells.getN (0 + i) else none) = _
   rw [if_pos a4, Nat.zero_add]
   exact a9 i y hy
variable {n0 : B}
theorem FileR.re (a : FileR n0 h v bs) : FileR n0 (reFloor h) v bs := by cases h; exact a
theorem FileR.stay {p : B → Prop} (a : FileR n0 h v bs) (s : Stay p h h') (hp : ∀ q, B.val q < B.val n0 → ¬ p q) (hn : B.val n0 ≤ B.val h.next) : FileR n0 h' v bs := by
 rcases a with h1 | ⟨q, g, cap, rfl, h2, r⟩
 · exact .inl h1
 · exact .inr ⟨q, g, cap, rfl, h2, r.stay s (Nat.lt_of_lt_of_le h2 hn) (hp q h2)⟩
theorem FileR.new (a : FileR n0 h v bs) (k : Nat → List V → Bool) : newCells 1 v h k = k bs.length (bs.map bv) := by
 rcases a with ⟨rfl, id, g, off, fin, cap, rfl⟩ | ⟨q, g, cap, rfl, h2, r⟩
 · rfl
 · cases bs with
   | nil => rfl
   | cons c l =>
     show loadN h q g 0 (l.length + 1) (Nat.mul (l.length + 1) 1) (fun vs => k (l.length + 1) vs) = _
     rw [show Nat.mul (l.length + 1) 1 = ((c :: l).map bv).length by simp, loadN_row r rfl (by simp) (by simp)]; rfl
def FileX (h : H) (v : V) (bs : List UInt8) : Prop :=
 (bs = [] ∧ ∃ id, v = .l id 0 0 0 0 (some 0)) ∨ (bs ≠ [] ∧ ∃ q, v = fileV q 0 bs.length ∧ OwnX h q 5 (bs.map bv))
theorem FileX.m (a : FileX h v bs) : FileM h v bs := by
 rcases a with ⟨rfl, id, rfl⟩ | ⟨_, q, rfl, ⟨blk, h1, h2, h3, h4, h5, h6, h7⟩, f, l⟩
 · exact .inl ⟨rfl, _, _, _, _, rfl⟩
 · exact .inr ⟨q, 0, blk, rfl, f, l, h1, by omega, by omega, by rw [h6, List.length_map]; exact Nat.le_refl _, h5, by omega, h7⟩
theorem FileX.stay {p : B → Prop} (a : FileX h v bs) (s : Stay p h h') (hp : ∀ q, fOf v q → ¬ p q) : FileX h' v bs := by
 rcases a with h1 | ⟨hn, q, rfl, o⟩
 · exact .inl h1
 · exact .inr ⟨hn, q, rfl, o.stay s (hp q (fOf_mk ..))⟩
theorem cl_nil : FnOk Try.prog 59 [.l0] h fun y h' => y = .l0 ∧ h' = h := by
 refine fn_go c59 (by intro hb; cases hb) (by simp) (by simp) fun Q hQ => ?_
 simp only [slotsF, Nat.reduceAdd]
 repeat' (first
   | refine St.h ?_
   | simp (disch := first | omega | (simp only [lnv]; omega)) only [wlk, mwk, ↓get_put', ↓reduceIte, seval]
   | (with_reducible (first | apply cd_split | apply gd_split)) <;> (intro hc; (try simp only [hcn] at hc); (try simp only [hc]); (try simp only [hcl] at hc); try omega))
 subst hQ
 exact ⟨rfl, rfl⟩
theorem FileR.isl (a : FileR n0 h v bs) : ∃ id g off fin cap, v = .l id g off bs.length fin cap := by
 rcases a with ⟨rfl, id, g, off, fin, cap, rfl⟩ | ⟨q, g, cap, rfl, h2, r⟩
 · exact ⟨_, _, _, _, _, rfl⟩
 · exact ⟨_, _, _, _, _, rfl⟩
theorem cl_file (a : FileR n0 h v bs) (hn0 : B.val n0 ≤ B.val h.next) (hl : bs.length ≤ 1000000) (hf : B.val h.floor ≤ B.val h.next) : FnOk Try.prog 59 [v] h fun y h' => FileX h' y bs ∧ Stay nowhere h h' ∧ ∀ q, isOf y q → B.val h.next ≤ B.val q := by
 obtain ⟨id, g, off, fin, cap, hv⟩ := a.isl
 refine fn_go c59 (by intro hb; cases hb) (by simp) (by simp) fun Q hQ => ?_
 simp only [slotsF, Nat.reduceAdd]
 rw [hv]
 repeat' (first
   | refine St.h ?_
   | simp (disch := first | omega | (simp only [lnv]; omega)) only [wlk, mwk, ↓get_put', ↓reduceIte, seval]
   | (with_reducible (first | apply cd_split | apply gd_split)) <;> (intro hc; (try simp only [hcn] at hc); (try simp only [hc]); (try simp only [hcl] at hc); try omega))
 refine AL.own (by simp) hf fun h1 s1 n1 o1 => ?_
 have a1 := a.stay s1 (fun _ _ e => e) hn0
 rw [hv] at a1
 have hf1 := s1.fl hf
 repeat' (first
   | refine St.h ?_
   | simp (disch := first | omega | (simp only [lnv]; omega)) only [wlk, mwk, ↓get_put', ↓reduceIte, seval]
   | (with_reducible (first | apply cd_split | apply gd_split)) <;> (intro hc; (try simp only [hcn] at hc); (try simp only [hc]); (try simp only [hcl] at hc); try omega))
 cases hb : bs with
 | nil =>
   subst hb
   refine AP.empty0 (fun k => a1.new k) ?_
   repeat' (first
     | refine St.h ?_
     | simp (disch := first | omega | (simp only [lnv]; omega)) only [wlk, mwk, ↓get_put', ↓reduceIte, seval]
     | (with_reducible (first | apply cd_split | apply gd_split)) <;> (intro hc; (try simp only [hcn] at hc); (try simp only [hc]); (try simp only [hcl] at hc); try omega))
   subst hQ
   exact ⟨.inl ⟨rfl, _, rfl⟩, s1, fun q ⟨_, _, _, _, _, e⟩ => by cases e; exact Nat.le_refl _⟩
 | cons c l =>
   rw [← hb]
   have hb1 : 1 ≤ bs.length := by rw [hb]; simp
   refine AP.empty (fun k => a1.new k) hf1 (by simp) hb1 (by omega) (by simp; omega) fun h2 s2 n2 o2 => ?_
   repeat' (first
     | refine St.h ?_
     | simp (disch := first | omega | (simp only [lnv]; omega)) only [wlk, mwk, ↓get_put', ↓reduceIte, seval]
     | (with_reducible (first | apply cd_split | apply gd_split)) <;> (intro hc; (try simp only [hcn] at hc); (try simp only [hc]); (try simp only [hcl] at hc); try omega))
   subst hQ
   refine ⟨.inr ⟨by intro e; rw [e] at hb1; simp at hb1, h1.next, ?_, o2⟩, s1.trans s2, fun q ⟨_, _, _, _, _, e⟩ => by cases e; omega⟩
   unfold fileV
   rw [hb]; rfl
theorem cl_acts {U : List AB} (a : Ss 6 actG h v U) (hn : v ≠ .l0 → U ≠ []) (hU : U.length ≤ 10000) (hf : B.val h.floor ≤ B.val h.next) : FnOk Try.prog 58 [v] h fun y h' => Stay nowhere h h' ∧ ((U = [] ∧ y = .l0) ∨ (U ≠ [] ∧ ∃ q, y = .l q 0 0 U.length (U.length * 6) none ∧ OwnX h' q 84 (U.flatMap actG) ∧ B.val h.next ≤ B.val q)) := by
 refine fn_go c58 (by intro hb; cases hb) (by simp) (by simp) fun Q hQ => ?_
 simp only [slotsF, Nat.reduceAdd]
 by_cases hv : v = .l0
 · subst hv
   have : U = [] := by
     rcases a with ⟨_, e⟩ | ⟨id, g, off, fin, cap, e, _⟩
     · exact e
     · cases e
   subst this
   repeat' (first
     | refine St.h ?_
     | simp (disch := first | omega | (simp only [lnv]; omega)) only [wlk, mwk, ↓get_put', ↓reduceIte, seval]
     | (with_reducible (first | apply cd_split | apply gd_split)) <;> (intro hc; (try simp only [hcn] at hc); (try simp only [hc]); (try simp only [hcl] at hc); try omega))
   subst hQ
   exact ⟨Stay.refl _ _, .inl ⟨rfl, rfl⟩⟩
 · have hU0 := hn hv
   obtain ⟨id, g, off, fin, cap, hvv⟩ : ∃ id g off fin cap, v = .l id g off U.length fin cap := by
     rcases a with ⟨e, _⟩ | ⟨id, g, off, fin, cap, e, _⟩
     · exact absurd e hv
     · exact ⟨_, _, _, _, _, e⟩
   rw [hvv]
   repeat' (first
     | refine St.h ?_
     | simp (disch := first | omega | (simp only [lnv]; omega)) only [wlk, mwk, ↓get_put', ↓reduceIte, seval]
     | (with_reducible (first | apply cd_split | apply gd_split)) <;> (intro hc; (try simp only [hcn] at hc); (try simp only [hc]); (try simp only [hcl] at hc); try omega))
   refine AL.own (by simp) hf fun h1 s1 n1 o1 => ?_
   have a1 := a.grow s1
   rw [hvv] at a1
   have hf1 := s1.fl hf
   repeat' (first
     | refine St.h ?_
     | simp (disch := first | omega | (simp only [lnv]; omega)) only [wlk, mwk, ↓get_put', ↓reduceIte, seval]
     | (with_reducible (first | apply cd_split | apply gd_split)) <;> (intro hc; (try simp only [hcn] at hc); (try simp only [hc]); (try simp only [hcl] at hc); try omega))
   have hlen := fm_len actG_len U
   have hU1 : 1 ≤ U.length := by
     cases U with
     | nil => exact absurd rfl hU0
     | cons a l => simp
   refine AP.empty (fun k => new_ss a1 actG_len (by omega) k) hf1 hlen hU1 (by omega) (by rw [hlen]; omega) fun h2 s2 n2 o2 => ?_
   repeat' (first
     | refine St.h ?_
     | simp (disch := first | omega | (simp only [lnv]; omega)) only [wlk, mwk, ↓get_put', ↓reduceIte, seval]
     | (with_reducible (first | apply cd_split | apply gd_split)) <;> (intro hc; (try simp only [hcn] at hc); (try simp only [hc]); (try simp only [hcl] at hc); try omega))
   subst hQ
   exact ⟨s1.trans s2, .inr ⟨hU0, h1.next, rfl, o2, by omega⟩⟩
end
end Go.Proofs.Ytjlhfoadabkahaa

set_option maxRecDepth 100000
set_option maxHeartbeats 8000000
set_option linter.all false
namespace Go.Proofs.Ytjlhfoadabkahaa
open Go Go.Ev
section
variable {h h' : H} {N : Nx} {id s : B} {el : Nat} {xs : List V} {v mp lo : V} {bs : List UInt8} {X : Xs} {U : List AB} {rm : Int}
theorem OwnX.un {h0 : H} (o : OwnX h' id el xs) (e : h'.floor = h0.next) (hf : B.val h0.floor ≤ B.val h0.next) : OwnX (unFloor h0 h') id el xs := by
 obtain ⟨o1, o2, o3⟩ := o
 rw [e] at o2
 cases h0; cases h'
 exact ⟨o1, Nat.le_trans hf o2, o3⟩
theorem FileX.un {h0 : H} (o : FileX h' v bs) (e : h'.floor = h0.next) (hf : B.val h0.floor ≤ B.val h0.next) : FileX (unFloor h0 h') v bs :=
 o.imp (fun h => h) fun ⟨hn, q, hq, o⟩ => ⟨hn, q, hq, o.un e hf⟩
theorem mapC_un {h0 : H} {E : En} (o : MapC h' id E) (e : h'.floor = h0.next) (hf : B.val h0.floor ≤ B.val h0.next) : MapC (unFloor h0 h') id E := by
 obtain ⟨o1, o2, o3, o4⟩ := o
 rw [e] at o2
 cases h0; cases h'
 exact ⟨o1, Nat.le_trans hf o2, o3, o4⟩
variable {n0 : B}
structure SrcR (n0 : B) (h : H) (s : B) (mp lo : V) (X : Xs) (U : List AB) (rm : Int) : Prop where
 row : Row h s 0 0 [.i .i64 rm, mp, lo]
 map : (mp = .m0 ∧ X = []) ∨ ∃ id, mp = .m id ∧ MapF h id (vX X) ∧ B.val id < B.val n0
 acts : Ss 6 actG h lo U
 nonil : lo ≠ .l0 → U ≠ []
 fil : ∀ f ∈ live X U, FileR n0 h f.1 f.2
 lt : B.val s < B.val n0
 lol : ∀ q, isOf lo q → B.val q < B.val n0
theorem _root_.Go.Ev.MapF.b {h : H} {id : B} {E : En} (m : MapF h id E) (hf : B.val h.floor ≤ B.val h.next) : MapB h id E := ⟨m.blk, Nat.lt_of_lt_of_le m.lo hf, m.nod⟩
theorem SrcR.ln (S : SrcR n0 h s mp lo X U rm) (hf : B.val h.floor ≤ B.val h.next) : MLn Try.prog mp (reFloor h) N = N.go Try.prog (.i .i64 (X.length : Int)) (reFloor h) := by
 rcases S.map with ⟨rfl, rfl⟩ | ⟨id, rfl, m, _⟩
 · exact mln_nil
 · rw [(m.b hf).re.ln, len_X]
theorem ss_re' {α : Type} {n : Nat} {c : α → List V} {L : List α} (a : Ss n c h v L) : Ss n c (reFloor h) v L := by cases h; exact a
def LooN (h' : H) (v : V) (U : List AB) (n0 : B) : Prop := (U = [] ∧ v = .l0) ∨ (U ≠ [] ∧ ∃ q, v = .l q 0 0 U.length (U.length * 6) none ∧ OwnX h' q 84 (U.flatMap actG) ∧ B.val n0 ≤ B.val q)
theorem LooN.un {h0 : H} {n0 : B} (o : LooN h' v U n0) (e : h'.floor = h0.next) (hf : B.val h0.floor ≤ B.val h0.next) : LooN (unFloor h0 h') v U n0 :=
 o.imp (fun h => h) fun ⟨hn, q, hq, o, l⟩ => ⟨hn, q, hq, o.un e hf, l⟩
theorem LooN.stay {n0 : B} {p : B → Prop} (o : LooN h v U n0) (s : Stay p h h') (hp : ∀ q, isOf v q → ¬ p q) : LooN h' v U n0 :=
 o.imp (fun h => h) fun ⟨hn, q, hq, o, l⟩ => ⟨hn, q, hq, o.stay s (hp q (by rw [hq]; exact ⟨_, _, _, _, _, rfl⟩)), l⟩
theorem LooN.sl {n0 : B} (o : LooN h v U n0) : IsSl v := o.elim (fun e => .inl e.2) fun ⟨_, q, e, _⟩ => .inr ⟨_, _, _, _, _, _, e⟩
theorem fp_m {P : Program} {ps : List Pt} {t : F} {z : List V} {e : Option (Nat × Nat)} {off : Nat} : FP P off 1 (.m id) ps t z e h N = if off + 1 ≤ z.length then FL P ps t (z.take off ++ (.m id :: z.drop (off + 1))) e h N else FPJ P off 1 (.m id) ps t z e h N := fp_at (cs := [.m id]) rfl rfl rfl
theorem AL.ownX {P : Program} {cs : List V} {mk : B → V} (hl : cs.length < 2 ^ 38) (hf : B.val h.floor ≤ B.val h.next)
   (k : ∀ h', Stay nowhere h h' → B.val h'.next = B.val h.next + 1 → OwnX h' h.next el cs → N.go P (mk h.next) h') : AL P el cs mk h N := by
 obtain ⟨h', a1, a2, a3, blk, b1, b2, b3, b4, b5, b6, b7⟩ := alloc_new el cs h hl
 exact hm_of (fun k => a1 _) (k h' a2 a3 ⟨⟨blk, b1, b3, b2, b6, b5, b4, b7⟩, by rw [a2.floor]; exact hf, by omega⟩)
theorem SrcR.stay {p : B → Prop} (S : SrcR n0 h s mp lo X U rm) (t : Stay p h h') (hp : ∀ q, B.val q < B.val n0 → ¬ p q) (hn : B.val n0 ≤ B.val h.next) : SrcR n0 h' s mp lo X U rm :=
 ⟨S.row.stay t (Nat.lt_of_lt_of_le S.lt hn) (hp s S.lt), S.map.imp_right fun ⟨i2, e, m, l⟩ => ⟨i2, e, by
   obtain ⟨b, h1, h2⟩ := m.blk
   exact ⟨⟨b, (t.get i2 (Nat.lt_of_lt_of_le l hn) (hp i2 l)).trans h1, h2⟩, by rw [t.floor]; exact m.lo, m.nod⟩, l⟩, S.acts.stay t fun q hq => hp q (S.lol q hq), S.nonil, fun f hf => (S.fil f hf).stay t hp hn, S.lt, S.lol⟩
theorem SrcR.grow (S : SrcR n0 h s mp lo X U rm) (t : Stay nowhere h h') (hn : B.val n0 ≤ B.val h.next) : SrcR n0 h' s mp lo X U rm := S.stay t (fun _ _ e => e) hn
structure CopyX (n0 : B) (g : H) (c cm : B) (lo' : V) (X' : Xs) (U' : List AB) (rm : Int) : Prop where
 own : OwnX g c 76 [.i .i64 rm, .m cm, lo']
 map : MapC g cm (vX X')
 loo : LooN g lo' U' n0
 fil : ∀ f ∈ live X' U', FileX g f.1 f.2
 fp : (live X' U').Pairwise apa
 cc : c ≠ cm
 ls : ¬ isOf lo' c
 lm : ¬ isOf lo' cm
 fs : ∀ f ∈ live X' U', ∀ q, fOf f.1 q → B.val n0 ≤ B.val q ∧ q ≠ c ∧ q ≠ cm ∧ ¬ isOf lo' q
 nc : B.val n0 ≤ B.val c
 nm : B.val n0 ≤ B.val cm
def copyK (n0 : B) (X : Xs) (U : List AB) (rm : Int) (y : V) (g : H) : Prop := ∃ c cm lo' X' U', y = .p c 0 0 3 ∧ CopyX n0 g c cm lo' X' U' rm ∧ (bX X').Perm (bX X) ∧ U'.map absA = U.map absA
theorem store_ownX {j fin : Nat} {y : V} (o : OwnX h id el xs) (hj : j < fin) (hfit : j < 2 ^ 37) (h1 : oneV y = true) : ∃ h', (∀ k, Ev.store h id 0 j fin [y] k = k h') ∧ OwnX h' id el (xs.set j y) ∧ Stay (fun i => i = id) h h' := by
 obtain ⟨⟨blk, a1, a2, a3, a4, a8, a9, a7⟩, a5, a6⟩ := o
 obtain ⟨next, floor, heap⟩ := h
 obtain ⟨cur, min, sz, cells, bel, fr⟩ := blk
 simp only at a2 a3 a4 a7 a8 a9
 subst a2; subst a3; subst a4; subst a8; subst a9
 obtain ⟨tr, t1, t2, t3⟩ := setList_fine [y] j cells (by simp; omega)
 obtain ⟨hp, s1, s2, s3⟩ := setK_ok id (⟨0, 0, xs.length, tr, bel, 0⟩ : Blk) heap
 have e1 : B.geB floor id = true := by cases floor <;> first | rfl | (show Nat.ble _ _ = true; rw [Nat.ble_eq]; exact a5)
 have e2 : Nat.ble (Nat.add j 1) fin = true := by rw [Nat.ble_eq]; exact hj
 have e3 : allOne [y] = true := by show Bool.rec false true (oneV y) = true; rw [h1]
 have e4 : frOk 0 j = true := rfl
 have e5 : Nat.beq 0 0 = true := rfl
 have e6 : Nat.ble 0 0 = true := rfl
 have a1' : heap.get id = some ⟨0, 0, xs.length, cells, bel, 0⟩ := a1
 refine ⟨⟨next, floor, hp⟩, fun k => ?_, ⟨⟨_, s2, rfl, rfl, rfl, rfl, by rw [List.length_set], fun i z hz => ?_⟩, a5, a6⟩, ⟨rfl, Nat.le_refl _, fun i _ hi => s3 i hi⟩⟩
 · simp only [Ev.store, hK_mk, a1', optK_some, blkK_mk, List.length_singleton, e5, e6, e1, e2, e3, e4, ifK_true]
   rw [t1, s1]
 · show tr.getN i = some z
   rw [List.getElem?_set] at hz
   by_cases hij : j = i
   · subst hij
     rw [if_pos rfl] at hz
     split at hz
     · have := t2 0 y rfl
       rw [Nat.add_zero] at this
       rw [this]; exact hz
     · cases hz
   · rw [if_neg hij] at hz
     rw [t3 i (by simp; omega)]
     exact a7 i z hz
theorem ST.ownX {P : Program} {j fin : Nat} {x y : V} (o : OwnX h id el xs) (hc : cells x = [y]) (h1 : oneV y = true) (hj : j < fin) (hfit : j < 2 ^ 37) (k : ∀ h', OwnX h' id el (xs.set j y) → Stay (fun i => i = id) h h' → N.go P (.tu []) h') : ST P 1 (.p id 0 j fin) x h N := by
 obtain ⟨h', a1, a2, a3⟩ := store_ownX o hj hfit h1
 refine hm_of (v := .tu []) (h' := h') (fun k => ?_) (k h' a2 a3)
 show ifK (Nat.beq (cells x).length 1) (fun _ => Ev.store h id 0 j fin (cells x) fun h => k (.tu []) h) = _
 rw [hc]
 show Ev.store h id 0 j fin [y] (fun h => k (.tu []) h) = _
 rw [a1]
theorem acts_set {A C : List AB} {a a' : AB} {y : V} (e : (actG a).set 4 y = actG a') : ((A ++ a :: C).flatMap actG).set (A.length * 6 + 4) y = (A ++ a' :: C).flatMap actG := by
 have h1 := fm_len actG_len A
 have h2 := actG_len a
 rw [List.flatMap_append, List.flatMap_append, List.flatMap_cons, List.flatMap_cons, List.set_append_right _ _ (by omega), h1, Nat.add_sub_cancel_left, List.set_append_left _ _ (by omega), e]
theorem acts_at {A C : List AB} {a : AB} : (A ++ a :: C).getD A.length default = a := by simp [List.getD]
def goneC (a : AB) (y : V) : AB := { a with gone := a.gone.map fun f => (y, f.2) }
theorem goneC_abs {a : AB} {y : V} : absA (goneC a y) = absA a := by
 unfold absA goneC
 cases a.gone <;> rfl
theorem goneC_set {a : AB} {y : V} (h : a.gone = none → y = .l0) : (actG a).set 4 y = actG (goneC a y) := by
 obtain ⟨kd, nm, od, fr, gn⟩ := a
 cases gn with
 | none => rw [h rfl]; rfl
 | some f => rfl
theorem FileX.sl (a : FileX h v bs) : IsSl v := a.m.sl.1
theorem cl_gone {a : AB} (hr : ∀ f ∈ a.gone, FileR n0 h f.1 f.2 ∧ f.2.length ≤ 1000000) (hn : B.val n0 ≤ B.val h.next) (hf : B.val h.floor ≤ B.val h.next) :
   FnOk Try.prog 59 [a.gv] h fun y h' => (a.gone = none → y = .l0) ∧ (∀ f ∈ a.gone, FileX h' y f.2) ∧ Stay nowhere h h' ∧ (∀ q, isOf y q → B.val h.next ≤ B.val q) ∧ IsSl y := by
 obtain ⟨kd, nm, od, fr, gn⟩ := a
 cases gn with
 | none =>
   refine cl_nil.mono ?_
   rintro y h' ⟨rfl, rfl⟩
   exact ⟨fun _ => rfl, fun f hf => (by cases hf), Stay.refl _ _, fun q ⟨_, _, _, _, _, e⟩ => (by cases e), .inl rfl⟩
 | some f =>
   obtain ⟨h1, h2⟩ := hr f rfl
   refine (cl_file h1 hn h2 hf).mono ?_
   rintro y h' ⟨h3, h4, h5⟩
   exact ⟨fun e => (by cases e), fun g hg => (by cases hg; exact h3), h4, h5, h3.sl⟩
theorem copy_tail {t : F} {g : H} {c cm : B} {lo1 : V} {Z : Xs} {Q : V → H → Prop} (hQ : Q = copyK n0 X U rm) (f3 : get 3 t = .p c 0 0 3) (hC : OwnX g c 76 [.i .i64 rm, .m cm, lo1]) (m : MapC g cm (vX Z)) (hlo : LooN g lo1 U n0) (fil : ∀ f ∈ Z.map (·.2), FileX g f.1 f.2) (fp : (Z.map (·.2)).Pairwise apa)
   (cc : c ≠ cm) (ls : ¬ isOf lo1 c) (lm : ¬ isOf lo1 cm) (fs : ∀ f ∈ Z.map (·.2), ∀ q, fOf f.1 q → B.val n0 ≤ B.val q ∧ q ≠ c ∧ q ≠ cm ∧ ¬ isOf lo1 q) (nc : B.val n0 ≤ B.val c) (nm : B.val n0 ≤ B.val cm) (hn : B.val n0 ≤ B.val g.next) (hU : U.length ≤ 10000)
   (hg : ∀ a ∈ U, ∀ f ∈ a.gone, FileR n0 g f.1 f.2 ∧ f.2.length ≤ 1000000) (hper : (bX Z).Perm (bX X)) (hf : B.val g.floor ≤ B.val g.next) : Ok Try.prog 64 s30_14 t g (FnK [Rs.tmp (slOf 2)] Q) := by
 rcases hlo with ⟨rfl, rfl⟩ | ⟨hU0, q, rfl, oq, nq⟩
 · repeat' (first
     | refine St.h ?_
     | simp (disch := first | omega | (simp only [lnv]; omega)) only [wlk, mwk, ↓get_put', ↓reduceIte, seval, f3, hC.own.row.l1]
     | (with_reducible (first | apply cd_split | apply gd_split)) <;> (intro hc; (try simp only [hcn] at hc); (try simp only [hc]); (try simp only [hcl] at hc); try omega))
   refine Ok.lp (fun m t g1 => m = 0 ∧ g = g1 ∧ get 3 t = .p c 0 0 3 ∧ get 46 t = .i .i64 0 ∧ get 47 t = .i .i64 0) 0 ?_ ?_
   · simp (disch := first | omega | (simp only [lnv]; omega)) only [wlk, mwk, ↓get_put', ↓reduceIte, seval, f3]
   rintro I hI m t g1 ⟨rfl, rfl, f3, f46, f47⟩
   repeat' (first
     | refine St.h ?_
     | simp (disch := first | omega | (simp only [lnv]; omega)) only [wlk, mwk, ↓get_put', ↓reduceIte, seval, f3, f46, f47]
     | (with_reducible (first | apply cd_split | apply gd_split)) <;> (intro hc; (try simp only [hcn] at hc); (try simp only [hc]); (try simp only [hcl] at hc); try omega))
   subst hQ
   have e : live Z [] = Z.map (·.2) := by unfold live gones; simp
   refine ⟨c, cm, .l0, Z, [], rfl, ⟨hC, by assumption, .inl ⟨rfl, rfl⟩, ?_, ?_, cc, ls, lm, ?_, nc, nm⟩, hper, rfl⟩
   · rw [e]; exact fil
   · rw [e]; exact fp
   · rw [e]; exact fs
 have hns : ∀ {id : B}, isOf (.l q 0 0 U.length (U.length * 6) none) id → id = q := fun ⟨_, _, _, _, _, e⟩ => by cases e; rfl
 have qc : q ≠ c := fun e => ls (by rw [← e]; exact ⟨_, _, _, _, _, rfl⟩)
 have qcm : q ≠ cm := fun e => lm (by rw [← e]; exact ⟨_, _, _, _, _, rfl⟩)
 repeat' (first
   | refine St.h ?_
   | simp (disch := first | omega | (simp only [lnv]; omega)) only [wlk, mwk, ↓get_put', ↓reduceIte, seval, f3, hC.own.row.l1]
   | (with_reducible (first | apply cd_split | apply gd_split)) <;> (intro hc; (try simp only [hcn] at hc); (try simp only [hc]); (try simp only [hcl] at hc); try omega))
 refine Ok.lp (fun mm t g1 => ∃ (i : Nat) (A : List AB), mm = U.length - i ∧ i ≤ U.length ∧ get 3 t = .p c 0 0 3 ∧ get 45 t = .l q 0 0 U.length (U.length * 6) none ∧ get 46 t = .i .i64 (U.length : Int) ∧ get 47 t = .i .i64 (i : Int) ∧ A.length = i ∧ A.map absA = (U.take i).map absA ∧
   OwnX g1 q 84 ((A ++ U.drop i).flatMap actG) ∧ OwnX g1 c 76 [.i .i64 rm, .m cm, .l q 0 0 U.length (U.length * 6) none] ∧ MapC g1 cm (vX Z) ∧ (∀ f ∈ live Z A, FileX g1 f.1 f.2) ∧ (live Z A).Pairwise apa ∧ (∀ f ∈ live Z A, ∀ p, fOf f.1 p → B.val n0 ≤ B.val p ∧ p ≠ c ∧ p ≠ cm ∧ p ≠ q) ∧
   (∀ a ∈ U, ∀ f ∈ a.gone, FileR n0 g1 f.1 f.2 ∧ f.2.length ≤ 1000000) ∧ B.val n0 ≤ B.val g1.next ∧ B.val g1.floor ≤ B.val g1.next) U.length ?_ ?_
 · simp (disch := first | omega | (simp only [lnv]; omega)) only [wlk, mwk, ↓get_put', ↓reduceIte, seval, f3]
   have e : live Z [] = Z.map (·.2) := by unfold live gones; simp
   have fs0 : ∀ f ∈ live Z [], ∀ p, fOf f.1 p → B.val n0 ≤ B.val p ∧ p ≠ c ∧ p ≠ cm ∧ p ≠ q := by
     rw [e]
     intro f hf p hp
     obtain ⟨x1, x2, x3, x4⟩ := fs f hf p hp
     exact ⟨x1, x2, x3, fun e => x4 (by rw [e]; exact ⟨_, _, _, _, _, rfl⟩)⟩
   exact ⟨0, [], by omega, by omega, trivial, trivial, trivial, rfl, rfl, by simp, by simpa using oq, hC, m, by rw [e]; exact fil, by rw [e]; exact fp, fs0, hg, hn, hf⟩
 clear oq hC m fil fs fp hg hn hf f3
 rintro I hI mm t g1 ⟨i, A, rfl, hi, f3, f45, f46, f47, hA, hAb, oq, hC, m, fil, fp, fs, hg, hn, hf⟩
 by_cases hil : i < U.length
 case neg =>
   obtain rfl : i = U.length := by omega
   repeat' (first
     | refine St.h ?_
     | simp (disch := first | omega | (simp only [lnv]; omega)) only [wlk, mwk, ↓get_put', ↓reduceIte, seval, f3, f45, f46, f47]
     | (with_reducible (first | apply cd_split | apply gd_split)) <;> (intro hc; (try simp only [hcn] at hc); (try simp only [hc]); (try simp only [hcl] at hc); try omega))
   subst hQ
   rw [List.drop_length, List.append_nil] at oq
   rw [List.take_length] at hAb
   have hA0 : A ≠ [] := fun e => by rw [e] at hA; exact hU0 (List.eq_nil_of_length_eq_zero hA.symm)
   refine ⟨c, cm, _, Z, A, rfl, ⟨hC, m, .inr ⟨hA0, q, by rw [hA], oq, nq⟩, fil, fp, cc, ls, lm, fun f hf p hp => ?_, nc, nm⟩, hper, hAb⟩
   obtain ⟨x1, x2, x3, x4⟩ := fs f hf p hp
   exact ⟨x1, x2, x3, fun e => x4 (hns e)⟩
 obtain ⟨a, ha⟩ : ∃ a, a = U.getD i default := ⟨_, rfl⟩
 have hd : U.drop i = a :: U.drop (i + 1) := by rw [List.drop_eq_getElem_cons hil, ha]; simp [List.getD, hil]
 have haU : a ∈ U := by rw [ha]; simp [List.getD, hil]
 rw [hd] at oq
 have hlen : (A ++ a :: U.drop (i + 1)).length = U.length := by rw [List.length_append, List.length_cons, List.length_drop]; omega
 have hfl := fm_len actG_len (A ++ a :: U.drop (i + 1))
 rw [hlen] at hfl
 have hSs : Ss 6 actG g1 (.l q 0 0 U.length (U.length * 6) none) (A ++ a :: U.drop (i + 1)) := Ss.lit oq.own rfl actG_len hlen.symm (by rw [hlen]; exact Nat.le_refl _)
 have hat : (A ++ a :: U.drop (i + 1)).getD i default = a := by rw [← hA]; exact acts_at
 have hla : ∀ N : Nx, LN Try.prog q 0 (i * 6) (U.length * 6) 6 g1 N = N.go Try.prog (.a (actG a)) g1 := fun N => by
   have := Ss.ldA (P := Try.prog) (N := N) hSs actG_len (by omega) (i := i) (by rw [hlen]; exact hil)
   rw [hat] at this
   have e0 : loff (.l q 0 0 U.length (U.length * 6) none) + i * 6 = i * 6 := Nat.zero_add _
   rw [e0] at this
   exact this
 have hgs : IsSl a.gv := by
   unfold AB.gv
   cases hga : a.gone with
   | none => exact .inl rfl
   | some f =>
     obtain ⟨h1, _⟩ := hg a haU f hga
     obtain ⟨_, _, _, _, _, e⟩ := h1.isl
     exact .inr ⟨_, _, _, _, _, _, e⟩
 have ha6 : cells (.a (actG a)) = actG a := rfl
 repeat' (first
   | refine St.h ?_
   | simp (disch := first | omega | (simp only [lnv]; omega)) only [wlk, mwk, ↓get_put', ↓reduceIte, seval, f3, f45, f46, f47, Int.toNat_natCast, hla]
   | (with_reducible (first | apply cd_split | apply gd_split)) <;> (intro hc; (try simp only [hcn] at hc); (try simp only [hc]); (try simp only [hcl] at hc); try omega))
 refine AL.own (by simp) hf fun g2 s2 n2 o2 => ?_
 have hf2 := s2.fl hf
 repeat' (first
   | refine St.h ?_
   | simp (disch := first | omega | (simp only [lnv]; omega)) only [wlk, mwk, ↓get_put', ↓reduceIte, seval, f3, f45, f46, f47]
   | (with_reducible (first | apply cd_split | apply gd_split)) <;> (intro hc; (try simp only [hcn] at hc); (try simp only [hc]); (try simp only [hcl] at hc); try omega))
 refine ST.ownAll o2 ha6 rfl (act_one hgs) (by show 6 ≤ 6; omega) (by show 6 < 2 ^ 37; decide) fun g3 o3 s3 => ?_
 have s23 : Stay nowhere g1 g3 := s2.past' s3 fun p hp => by rw [hp]; exact Nat.le_refl _
 have hf3 := s23.fl hf
 have hc3 := hC.stay s23 fun e => e
 have r4 : ∀ N : Nx, L1 Try.prog g1.next 0 4 6 g3 N = N.go Try.prog a.gv g3 := fun N => by
   have := o3.row.l1 (P := Try.prog) (N := N) (off := 4) (fin := 6) (by show 4 < 6; omega) (by omega)
   exact this
 repeat' (first
   | refine St.h ?_
   | simp (disch := first | omega | (simp only [lnv]; omega)) only [wlk, mwk, ↓get_put', ↓reduceIte, seval, f3, f45, f46, f47, hc3.own.row.l1, r4]
   | (with_reducible (first | apply cd_split | apply gd_split)) <;> (intro hc; (try simp only [hcn] at hc); (try simp only [hc]); (try simp only [hcl] at hc); try omega))
 have hr3 : ∀ f ∈ a.gone, FileR n0 (reFloor g3) f.1 f.2 ∧ f.2.length ≤ 1000000 := fun f hfa => ⟨((hg a haU f hfa).1.stay s23 (fun _ _ e => e) hn).re, (hg a haU f hfa).2⟩
 have hn3 : B.val n0 ≤ B.val g3.next := Nat.le_trans hn s23.next
 refine CL.mkU (cl_gone hr3 (by rw [reFloor_next]; exact hn3) (re_fl _)) ?_
 rintro y g4' ⟨c1, c2, s4, c4, c5⟩
 have fl4 : g4'.floor = g3.next := by rw [s4.floor, reFloor_floor]
 have c2 : ∀ f ∈ a.gone, FileX (unFloor g3 g4') y f.2 := fun f hfa => (c2 f hfa).un fl4 hf3
 have s4 := s4.unfloor
 rw [reFloor_next] at c4
 generalize unFloor g3 g4' = g4 at c2 s4 ⊢
 clear fl4
 have s14 := s23.trans s4
 have hf4 := s14.fl hf
 have oq4 := oq.stay s14 fun e => e
 have hyc : cells y = [y] ∧ oneV y = true := by rcases c5 with rfl | ⟨_, _, _, _, _, _, rfl⟩ <;> exact ⟨rfl, rfl⟩
 repeat' (first
   | refine St.h ?_
   | simp (disch := first | omega | (simp only [lnv]; omega)) only [wlk, mwk, ↓get_put', ↓reduceIte, seval, f3, f45, f46, f47, Int.toNat_natCast]
   | (with_reducible (first | apply cd_split | apply gd_split)) <;> (intro hc; (try simp only [hcn] at hc); (try simp only [hc]); (try simp only [hcl] at hc); try omega))
 refine ST.ownX oq4 hyc.1 hyc.2 (by omega) (by omega) fun g5 oq5 s5 => ?_
 have hA' : A.length * 6 + 4 = i * 6 + 4 := by rw [hA]
 rw [← hA', acts_set (goneC_set c1)] at oq5
 have hlq : B.val q < B.val g1.next := oq.lt
 have hf5 := s5.fl hf4
 have hC5 := (hC.stay s14 fun e => e).stay s5 fun e => qc e.symm
 have m5 := (by assumption : MapC g1 cm (vX Z)).stay s14 (fun e => e) |>.stay s5 fun e => qcm e.symm
 repeat' (first
   | refine St.h ?_
   | simp (disch := first | omega | (simp only [lnv]; omega)) only [wlk, mwk, ↓get_put', ↓reduceIte, seval, f3, f45, f46, f47]
   | (with_reducible (first | apply cd_split | apply gd_split)) <;> (intro hc; (try simp only [hcn] at hc); (try simp only [hc]); (try simp only [hcl] at hc); try omega))
 have lsn : live Z (A ++ [goneC a y]) = live Z A ++ (goneC a y).gone.toList := by rw [live_snoc]; unfold live; rw [List.append_assoc]
 have hnew : ∀ f ∈ (goneC a y).gone.toList, f.1 = y ∧ FileX g5 f.1 f.2 := fun f hfm => by
   unfold goneC at hfm
   cases hga : a.gone with
   | none => rw [hga] at hfm; cases hfm
   | some f0 =>
     rw [hga] at hfm
     obtain rfl : f = (y, f0.2) := by simpa using hfm
     exact ⟨rfl, (c2 f0 hga).stay s5 fun p hp e => by
       obtain ⟨gg, off, nn, fin, cap, e1, _⟩ := hp
       have := c4 p ⟨_, _, _, _, _, e1⟩
       have := s23.next
       rw [e] at *; omega⟩
 have hno : ∀ p, fOf y p → B.val g3.next ≤ B.val p := fun p ⟨gg, off, nn, fin, cap, e1, _⟩ => c4 p ⟨_, _, _, _, _, e1⟩
 have hx3 := s23.next
 refine lp_next hI (U.length - (i + 1)) (by omega) ⟨i + 1, A ++ [goneC a y], rfl, by omega, ?_, ?_, ?_, ?_, by simp [hA], ?_, ?_, hC5, m5, ?_, ?_, ?_, ?_, ?_, hf5⟩
 · simp (disch := first | omega | (simp only [lnv]; omega)) only [wlk, mwk, ↓get_put', ↓reduceIte, seval, f3]
 · simp (disch := first | omega | (simp only [lnv]; omega)) only [wlk, mwk, ↓get_put', ↓reduceIte, seval, f45]
 · simp (disch := first | omega | (simp only [lnv]; omega)) only [wlk, mwk, ↓get_put', ↓reduceIte, seval, f46]
 · simp (disch := first | omega | (simp only [lnv]; omega)) only [wlk, mwk, ↓get_put', ↓reduceIte, seval]; rfl
 · rw [List.map_append, hAb, List.take_succ_eq_append_getElem hil, List.map_append]
   have : U[i] = a := by rw [ha]; simp [List.getD, hil]
   rw [this]
   show _ ++ [absA (goneC a y)] = _
   rw [goneC_abs]; rfl
 · rw [List.append_assoc]; exact oq5
 · rw [lsn]
   intro f hfm
   rcases List.mem_append.1 hfm with h1 | h1
   · exact ((fil f h1).stay s14 fun _ _ e => e).stay s5 fun p hp e => (fs f h1 p hp).2.2.2 e
   · exact (hnew f h1).2
 · rw [lsn]
   refine List.pairwise_append.2 ⟨fp, ?_, fun f1 h1 f2 h2 p p1 p2 => ?_⟩
   · unfold goneC
     cases a.gone <;> simp
   · have e2 := (hnew f2 h2).1
     rw [e2] at p2
     have k1 := hno p p2
     have k2 := ((fil f1 h1).m.own p1).2
     omega
 · rw [lsn]
   intro f hfm p hp
   rcases List.mem_append.1 hfm with h1 | h1
   · exact fs f h1 p hp
   · rw [(hnew f h1).1] at hp
     have k1 := hno p hp
     have k2 := hC.lt
     have k3 := (by assumption : MapC g1 cm (vX Z)).lt
     exact ⟨by omega, fun e => by rw [e] at k1; omega, fun e => by rw [e] at k1; omega, fun e => by rw [e] at k1; omega⟩
 · intro a2 h2 f hfa
   exact ⟨((hg a2 h2 f hfa).1.stay s14 (fun _ _ e => e) hn).stay s5 (fun p hp e => by rw [e] at hp; omega) (Nat.le_trans hn s14.next), (hg a2 h2 f hfa).2⟩
 · exact Nat.le_trans hn (Nat.le_trans s14.next s5.next)
theorem nam_inj : ∀ {X : Xs}, (nam X).Nodup → ∀ {x y : List UInt8 × Fl}, x ∈ X → y ∈ X → x.1 = y.1 → x = y
 | [], _, x, y, hx, _, _ => by cases hx
 | z :: X, hn, x, y, hx, hy, e => by
   have hn : (z.1 :: nam X).Nodup := hn
   rw [List.nodup_cons] at hn
   have mem : ∀ {w : List UInt8 × Fl}, w ∈ X → w.1 ∈ nam X := fun {w} hw => List.mem_map.2 ⟨w, hw, rfl⟩
   rcases List.mem_cons.1 hx with h1 | h1 <;> rcases List.mem_cons.1 hy with h2 | h2
   · rw [h1, h2]
   · exact absurd (mem h2) (by rw [← e, h1]; exact hn.1)
   · exact absurd (mem h1) (by rw [e, h2]; exact hn.1)
   · exact nam_inj hn.2 h1 h2 e
theorem keys_nam (X : Xs) : keysE (vX X) = nam X := by
 unfold keysE nam
 show List.map _ (List.map _ _) = _
 rw [List.map_map]; rfl
theorem nod_of_nam {X : Xs} (h : (nam X).Nodup) : X.Nodup := by
 induction X with
 | nil => exact .nil
 | cons z X ih =>
   have h : (z.1 :: nam X).Nodup := h
   rw [List.nodup_cons] at h
   exact List.nodup_cons.2 ⟨fun e => h.1 (List.mem_map.2 ⟨z, e, rfl⟩), ih h.2⟩
theorem all_perm {X Y : Xs} (hn : (nam X).Nodup) (hy : ∀ y ∈ Y, y ∈ X) (hv : (keysE (vX Y)).Nodup) (ha : ∀ p ∈ vX X, p ∈ vX Y) : Y.Perm X := by
 haveI : DecidableEq (List UInt8 × Fl) := fun a b => Classical.propDecidable _
 rw [keys_nam] at hv
 refine (List.perm_ext_iff_of_nodup (nod_of_nam hv) (nod_of_nam hn)).2 fun x => ⟨hy x, fun hx => ?_⟩
 obtain ⟨y, h1, h2⟩ := List.mem_map.1 (ha (x.1, x.2.1) (List.mem_map.2 ⟨x, hx, rfl⟩))
 have : y = x := nam_inj hn (hy y h1) hx (Prod.mk.inj h2).1
 rw [← this]; exact h1
theorem copy_n (S : SrcR h.next h s mp lo X U rm) (hX : X.length ≤ 1000) (hU : U.length ≤ 10000) (hl : ∀ f ∈ live X U, f.2.length ≤ 1000000) (hf : B.val h.floor ≤ B.val h.next) :
   FnN Try.prog 30 [.p s 0 0 3] h (copyK h.next X U rm) := by
 refine fn_so cs30 (by decide) (by simp) (by simp) fun Q hQ => ?_
 simp only [slotsF, Nat.reduceAdd]
 refine OkS.seq (OkS.cc ?_)
 repeat' (first
   | refine St.h ?_
   | simp (disch := first | omega | (simp only [lnv]; omega)) only [wlk, mwk, ↓get_put', ↓reduceIte, seval, sqs_n]
   | (with_reducible (first | apply cd_split | apply gd_split)) <;> (intro hc; (try simp only [hcn] at hc); (try simp only [hc]); (try simp only [hcl] at hc); try omega))
 refine OkS.seq (OkS.cc ?_)
 repeat' (first
   | refine St.h ?_
   | simp (disch := first | omega | (simp only [lnv]; omega)) only [wlk, mwk, ↓get_put', ↓reduceIte, seval, sqs_n, S.row.l1, S.ln hf]
   | (with_reducible (first | apply cd_split | apply gd_split)) <;> (intro hc; (try simp only [hcn] at hc); (try simp only [hc]); (try simp only [hcl] at hc); try omega))
 rw [or_makeMap1 (kd := .i64) (n := (X.length : Int)) (by simp (disch := first | omega | (simp only [lnv]; omega)) only [wlk, mwk, ↓get_put', ↓reduceIte, seval])]
 refine MN.mk (re_fl _) fun h1' m1 s1 n1 => ?_
 have fl1 : h1'.floor = h.next := by rw [s1.floor, reFloor_floor]
 have m1 := mapC_un m1 fl1 hf
 have s1 := s1.unfloor
 have n1 : B.val (unFloor h h1').next = B.val h.next + 1 := by rw [unFloor_mk]; rw [reFloor_next] at n1; exact n1
 rw [reFloor_next] at m1 ⊢
 rw [go_u]
 generalize unFloor h h1' = h1 at m1 s1 n1 ⊢
 clear fl1
 have hf1 := s1.fl hf
 have S1 := S.grow s1 (Nat.le_refl _)
 repeat' (first
   | refine St.h ?_
   | simp (disch := first | omega | (simp only [lnv]; omega)) only [wlk, mwk, ↓get_put', ↓reduceIte, seval, sqs_n, S1.row.l1]
   | (with_reducible (first | apply cd_split | apply gd_split)) <;> (intro hc; (try simp only [hcn] at hc); (try simp only [hc]); (try simp only [hcl] at hc); try omega))
 refine CL.mkU (cl_acts (ss_re' S1.acts) S.nonil hU (re_fl _)) ?_
 rintro lo1 h2' ⟨s2, hlo⟩
 have fl2 : h2'.floor = h1.next := by rw [s2.floor, reFloor_floor]
 have hlo := LooN.un (n0 := h1.next) (by rw [reFloor_next] at hlo; exact hlo) fl2 hf1
 have s2 := s2.unfloor
 generalize unFloor h1 h2' = h2 at hlo s2 ⊢
 clear fl2
 have hf2 := s2.fl hf1
 have hlsl := hlo.sl
 repeat' (first
   | refine St.h ?_
   | simp (disch := first | omega | (simp only [lnv]; omega)) only [wlk, mwk, ↓get_put', ↓reduceIte, seval, sqs_n, hlsl.fp, fp_m]
   | (with_reducible (first | apply cd_split | apply gd_split)) <;> (intro hc; (try simp only [hcn] at hc); (try simp only [hc]); (try simp only [hcl] at hc); try omega))
 refine AL.ownX (by simp) hf2 fun h3 s3 n3 oc => ?_
 repeat' (first
   | refine St.h ?_
   | simp (disch := first | omega | (simp only [lnv]; omega)) only [wlk, mwk, ↓get_put', ↓reduceIte, seval, sqs_n]
   | (with_reducible (first | apply cd_split | apply gd_split)) <;> (intro hc; (try simp only [hcn] at hc); (try simp only [hc]); (try simp only [hcl] at hc); try omega))
 have hn1 : B.val h.next ≤ B.val h1.next := by omega
 have hn2 : B.val h.next ≤ B.val h2.next := Nat.le_trans hn1 s2.next
 have hn3 : B.val h.next ≤ B.val h3.next := by omega
 have S3 := (S1.grow s2 hn1).grow s3 hn2
 have m3 := (m1.stay s2 fun e => e).stay s3 fun e => e
 have hlo3 : LooN h3 lo1 U h.next := by
   refine LooN.stay (h := h2) ?_ s3 fun _ _ e => e
   exact hlo.imp (fun e => e) fun ⟨e1, q, e2, e3, e4⟩ => ⟨e1, q, e2, e3, by omega⟩
 have hlq : ∀ q, isOf lo1 q → B.val h1.next ≤ B.val q ∧ B.val q < B.val h2.next := fun q hq => by
   rcases hlo with ⟨_, rfl⟩ | ⟨_, q', rfl, o, l⟩
   · obtain ⟨_, _, _, _, _, e⟩ := hq; cases e
   · obtain ⟨_, _, _, _, _, e⟩ := hq; cases e; exact ⟨l, o.lt⟩
 have hls : ¬ isOf lo1 h2.next := fun e => by have := hlq _ e; omega
 have hlm : ¬ isOf lo1 h.next := fun e => by have := hlq _ e; omega
 have hcc : h2.next ≠ h.next := fun e => by rw [e] at hn2 n3; have := s2.next; have e2 : B.val h2.next = B.val h.next := by rw [e]
                                            omega
 have hf3 := s3.fl hf2
 have hgone : ∀ {g : H}, SrcR h.next g s mp lo X U rm → ∀ a ∈ U, ∀ f ∈ a.gone, FileR h.next g f.1 f.2 ∧ f.2.length ≤ 1000000 := fun {g} T a ha f hfa => by
   have hm : f ∈ live X U := List.mem_append_right _ (List.mem_flatMap.2 ⟨a, ha, by rw [hfa]; exact List.mem_singleton.2 rfl⟩)
   exact ⟨T.fil f hm, hl f hm⟩
 have tail : ∀ t g Z, get 3 t = .p h2.next 0 0 3 → (bX Z).Perm (bX X) → MapC g h.next (vX Z) → (∀ f ∈ Z.map (fun p : List UInt8 × Fl => p.2), FileX g f.1 f.2 ∧ ∀ q, fOf f.1 q → B.val h3.next ≤ B.val q) → (Z.map (fun p : List UInt8 × Fl => p.2)).Pairwise apa → Stay (fun q => q = h.next) h3 g →
     Ok Try.prog 64 s30_14 t g (FnK [Rs.tmp (slOf 2)] Q) := fun t g Z f3 hper mg fil fp st => by
   have hfg := st.fl hf3
   have Sg := S3.stay st (fun q hq e => by rw [e] at hq; exact absurd hq (Nat.lt_irrefl _)) hn3
   refine copy_tail (n0 := h.next) hQ f3 (oc.stay st hcc) mg (hlo3.stay st fun q hq e => hlm (by rw [← e]; exact hq)) (fun f hf => (fil f hf).1) fp hcc hls hlm (fun f hf q hq => ?_) hn2 (Nat.le_refl _) (Nat.le_trans hn3 st.next) hU (hgone Sg) hper hfg
   have h9 := (fil f hf).2 q hq
   exact ⟨by omega, fun e => by rw [e] at h9; omega, fun e => by rw [e] at h9; omega, fun e => by have := hlq _ e; omega⟩
 have hst0 : Stay (fun q => q = h.next) h3 h3 := Stay.refl _ _
 rcases S3.map with ⟨hmp, hX0⟩ | ⟨idm, hmp, mF, hidm⟩
 · subst hmp
   refine OkS.seq (OkS.rng0 (wo_gen fun K hK => ?_))
   dsimp only [r30_0]
   simp (disch := first | omega | (simp only [lnv]; omega)) only [wlk, mwk, ↓get_put', ↓reduceIte, seval, S3.row.l1]
   subst hK
   refine ⟨?_, wo_gen fun K hK => ?_⟩
   · show get 28 _ = _
     simp (disch := first | omega | (simp only [lnv]; omega)) only [wlk, mwk, ↓get_put', ↓reduceIte, seval]
   simp (disch := first | omega | (simp only [lnv]; omega)) only [wlk, mwk, ↓get_put', ↓reduceIte, seval]
   subst hK
   refine ⟨?_, ?_⟩
   · show get 31 _ = _
     simp (disch := first | omega | (simp only [lnv]; omega)) only [wlk, mwk, ↓get_put', ↓reduceIte, seval]
   · rw [sqs_n]
     refine OkS.cc (tail _ h3 [] (by simp (disch := first | omega | (simp only [lnv]; omega)) only [wlk, mwk, ↓get_put', ↓reduceIte, seval]) (by rw [hX0]) m3 (fun f hf => (by cases hf)) .nil hst0)
 subst hmp
 refine OkS.seq (OkS.rngF (wo_gen fun K hK => ?_))
 dsimp only [r30_0]
 simp (disch := first | omega | (simp only [lnv]; omega)) only [wlk, mwk, ↓get_put', ↓reduceIte, seval, S3.row.l1]
 subst hK
 let Inv : B → En → F → H → Prop := fun idI vis t g => get 29 t = .p idI 0 0 0 ∧ get 3 t = .p h2.next 0 0 3 ∧ B.val h3.next ≤ B.val idI ∧ B.val idI < B.val g.next ∧ Stay (fun q => q = h.next) h3 g ∧
   ∃ Y Z : Xs, vis = vX Y ∧ (∀ y ∈ Y, y ∈ X) ∧ bX Z = bX Y ∧ MapC g h.next (vX Z) ∧ (∀ f ∈ Z.map (fun p : List UInt8 × Fl => p.2), FileX g f.1 f.2 ∧ ∀ q, fOf f.1 q → B.val idI < B.val q) ∧ (Z.map (fun p : List UInt8 × Fl => p.2)).Pairwise apa
 let Kb : Ev.X → F → H → Prop := fun x t g => x = .normal ∧ get 3 t = .p h2.next 0 0 3 ∧ Stay (fun q => q = h.next) h3 g ∧ ∃ Z : Xs, (bX Z).Perm (bX X) ∧ MapC g h.next (vX Z) ∧ (∀ f ∈ Z.map (fun p : List UInt8 × Fl => p.2), FileX g f.1 f.2 ∧ ∀ q, fOf f.1 q → B.val h3.next ≤ B.val q) ∧ (Z.map (fun p : List UInt8 × Fl => p.2)).Pairwise apa
 refine ⟨idm, vX X, Inv, Kb, ?_, mF, ?_, ⟨fun hi => hi.1, ?_, ?_, ?_⟩, ?_⟩
 · show get 28 _ = _
   simp (disch := first | omega | (simp only [lnv]; omega)) only [wlk, mwk, ↓get_put', ↓reduceIte, seval]
 · intro g st hn
   exact ⟨by simp (disch := first | omega | (simp only [lnv]; omega)) only [wlk, mwk, ↓get_put', ↓reduceIte, seval], by simp (disch := first | omega | (simp only [lnv]; omega)) only [wlk, mwk, ↓get_put', ↓reduceIte, seval], Nat.le_refl _, by omega, st.mono fun _ _ e => e.elim, [], [], rfl, fun y hy => (by cases hy), rfl, m3.stay st fun e => e, fun f hf => (by cases hf), .nil⟩
 · rintro idI vis t g g' ⟨a1, a2, a3, a4, a5, Y, Z, b1, b2, b3, b4, b5, b6⟩ st hnx
   refine ⟨a1, a2, a3, by rw [hnx]; exact a4, stay_past a5 st fun q e => .inr (by rw [e]; exact a3), Y, Z, b1, b2, b3, b4.stay st fun e => by rw [← e] at a3; omega, fun f hf => ⟨(b5 f hf).1.stay st fun q hq e => ?_, (b5 f hf).2⟩, b6⟩
   have := (b5 f hf).2 q hq
   rw [e] at this; exact absurd this (Nat.lt_irrefl _)
 · rintro idI vis t g ⟨a1, a2, a3, a4, a5, Y, Z, b1, b2, b3, b4, b5, b6⟩ hv ha
   refine wo_gen fun K hK => ?_
   simp (disch := first | omega | (simp only [lnv]; omega)) only [wlk, mwk, ↓get_put', ↓reduceIte, seval]
   subst hK
   refine ⟨?_, Stay.refl _ _, rfl, by simp (disch := first | omega | (simp only [lnv]; omega)) only [wlk, mwk, ↓get_put', ↓reduceIte, seval, a2], a5, Z, ?_, b4, fun f hf => ⟨(b5 f hf).1, fun q hq => by have := (b5 f hf).2 q hq; omega⟩, b6⟩
   · show get 31 _ = _
     simp (disch := first | omega | (simp only [lnv]; omega)) only [wlk, mwk, ↓get_put', ↓reduceIte, seval]
   · rw [b3]
     subst b1
     exact (all_perm (by rw [← keys_nam]; exact mF.nod) b2 hv.2 ha).map _
 · rintro idI vis t g k v ⟨a1, a2, a3, a4, a5, Y, Z, b1, b2, b3, b4, b5, b6⟩ hv hin hk
   obtain ⟨x, hxX, hxe⟩ := List.mem_map.1 hin
   obtain ⟨kx, vx, bs⟩ := x
   obtain ⟨rfl, rfl⟩ := Prod.mk.inj hxe
   have hfg := a5.fl hf3
   have Sg := S3.stay a5 (fun q hq e => by rw [e] at hq; exact absurd hq (Nat.lt_irrefl _)) hn3
   have hmem : (vx, bs) ∈ live X U := List.mem_append_left _ (List.mem_map.2 ⟨_, hxX, rfl⟩)
   have hfr : FileR h.next g vx bs := Sg.fil _ hmem
   have hbl : bs.length ≤ 1000000 := hl _ hmem
   have hng : B.val h.next ≤ B.val g.next := Nat.le_trans hn3 a5.next
   have ocg := oc.stay a5 hcc
   refine wo_gen fun K hK => ?_
   simp (disch := first | omega | (simp only [lnv]; omega)) only [wlk, mwk, ↓get_put', ↓reduceIte, seval]
   subst hK
   refine ⟨?_, by simp (disch := first | omega | (simp only [lnv]; omega)) only [wlk, mwk, ↓get_put', ↓reduceIte, seval, a1], Stay.refl _ _, ?_⟩
   · show get 31 _ = _
     simp (disch := first | omega | (simp only [lnv]; omega)) only [wlk, mwk, ↓get_put', ↓reduceIte, seval]
   refine wo_gen fun K hK => ?_
   simp (disch := first | omega | (simp only [lnv]; omega)) only [wlk, mwk, ↓get_put', ↓reduceIte, seval]
   subst hK
   refine ⟨Stay.refl _ _, OkS.cc ?_⟩
   repeat' (first
     | refine St.h ?_
     | simp (disch := first | omega | (simp only [lnv]; omega)) only [wlk, mwk, ↓get_put', ↓reduceIte, seval, a2, ocg.own.row.l1]
     | (with_reducible (first | apply cd_split | apply gd_split)) <;> (intro hc; (try simp only [hcn] at hc); (try simp only [hc]); (try simp only [hcl] at hc); try omega))
   refine CL.mkU (cl_file hfr.re (by rw [reFloor_next]; exact hng) hbl (re_fl _)) ?_
   rintro y g4' ⟨c2, s4, c4⟩
   have fl4 : g4'.floor = g.next := by rw [s4.floor, reFloor_floor]
   have c2 := c2.un fl4 hfg
   have s4 := s4.unfloor
   rw [reFloor_next] at c4
   generalize unFloor g g4' = g4 at c2 s4 ⊢
   clear fl4
   have hf4 := s4.fl hfg
   have b44 := b4.stay s4 fun e => e
   repeat' (first
     | refine St.h ?_
     | simp (disch := first | omega | (simp only [lnv]; omega)) only [wlk, mwk, ↓get_put', ↓reduceIte, seval]
     | (with_reducible (first | apply cd_split | apply gd_split)) <;> (intro hc; (try simp only [hcn] at hc); (try simp only [hc]); (try simp only [hcl] at hc); try omega))
   have hlz : (vX Z).length ≤ 1048576 := by
     have e1 : Z.length = Y.length := by have := congrArg List.length b3; rwa [len_bX, len_bX] at this
     have e2 : (vX Y).length ≤ (vX X).length := by rw [← b1]; exact hv.len
     rw [len_X] at *
     rw [len_X] at e2
     omega
   refine MU.mk b44 hlz fun g5 m5 s5 => ?_
   have hZY : nam Z = nam Y := by
     have h1 : ∀ W : Xs, nam (bX W) = nam W := fun W => by
       unfold nam
       show List.map _ (List.map _ _) = _
       rw [List.map_map]; rfl
     rw [← h1 Z, b3, h1 Y]
   have hkn : kx ∉ keysE (vX Z) := by rw [keys_nam, hZY, ← keys_nam, ← b1]; exact hk
   have hset : setE (vX Z) kx y = vX (Z ++ [(kx, (y, bs))]) := by
     have hi : idxE (vX Z) kx = none := by
       cases hi : idxE (vX Z) kx with
       | none => rfl
       | some i => exact absurd (getE_mem.1 ⟨_, (idxE_get hi).2⟩) hkn
     rw [(idxE_none hi).2.1]
     show _ ++ _ = List.map _ (_ ++ _)
     rw [List.map_append]; rfl
   rw [hset] at m5
   have hoc : ∀ q, fOf y q → B.val g.next ≤ B.val q := fun q ⟨gg, off, nn, fin, cap, e, _⟩ => c4 q ⟨_, _, _, _, _, e⟩
   have hcl : B.val h.next < B.val h3.next := by omega
   have sAll : Stay (fun q => q = h.next) g g5 := stay_past (s4.mono fun _ _ e => e.elim) s5 fun q e => .inl e
   repeat' (first
     | refine St.h ?_
     | simp (disch := first | omega | (simp only [lnv]; omega)) only [wlk, mwk, ↓get_put', ↓reduceIte, seval]
     | (with_reducible (first | apply cd_split | apply gd_split)) <;> (intro hc; (try simp only [hcn] at hc); (try simp only [hc]); (try simp only [hcl] at hc); try omega))
   refine ⟨sAll.mono fun q _ e => by
     rw [e]
     refine ⟨fun e2 => ?_, fun e2 => ?_⟩
     · rw [e2] at hidm; exact absurd hidm (Nat.lt_irrefl _)
     · rw [← e2] at a3; omega, ?_⟩
   refine ⟨by simp (disch := first | omega | (simp only [lnv]; omega)) only [wlk, mwk, ↓get_put', ↓reduceIte, seval, a1], by simp (disch := first | omega | (simp only [lnv]; omega)) only [wlk, mwk, ↓get_put', ↓reduceIte, seval, a2], a3, by have := sAll.next; omega, a5.trans sAll, Y ++ [(kx, (vx, bs))], Z ++ [(kx, (y, bs))], ?_, ?_, ?_, m5, ?_, ?_⟩
   · rw [b1]
     show _ = List.map _ (_ ++ _)
     rw [List.map_append]; rfl
   · intro w hw
     rcases List.mem_append.1 hw with h1 | h1
     · exact b2 w h1
     · rw [List.mem_singleton.1 h1]; exact hxX
   · show List.map _ (_ ++ _) = List.map _ (_ ++ _)
     rw [List.map_append, List.map_append]
     exact congrArg (· ++ [(kx, bs)]) b3
   · rw [List.map_append]
     intro f hf
     rcases List.mem_append.1 hf with h1 | h1
     · refine ⟨(b5 f h1).1.stay sAll fun q hq e => ?_, (b5 f h1).2⟩
       have := (b5 f h1).2 q hq
       rw [e] at this; omega
     · have hfe : f = (y, bs) := by simpa using h1
       rw [hfe]
       exact ⟨c2.stay s5 fun q hq e => (by have := hoc q hq; rw [e] at this; omega), fun q hq => by have := hoc q hq; omega⟩
   · rw [List.map_append]
     refine List.pairwise_append.2 ⟨b6, List.pairwise_singleton .., fun f1 h1 f2 h2 q q1 q2 => ?_⟩
     have hfe : f2 = (y, bs) := by simpa using h2
     rw [hfe] at q2
     have k1 := hoc q q2
     have k2 := ((b5 f1 h1).1.m.own q1).2
     omega
 · rintro x t' g ⟨rfl, f3, st, Z, hper, mg, fil, fp⟩ _
   rw [sqs_n]
   exact OkS.cc (tail _ g Z f3 hper mg fil fp st)
end
end Go.Proofs.Ytjlhfoadabkahaa

set_option linter.all false
namespace Go.Ev
open Go
def fenceAt (r : Option Nat) : Fence := { Fence.wide with round := r }
theorem callsAt {r : Option Nat} {n : Nat} {P : Program} {f : FuncId} {args : Array Value} {w : World} {R : Ending → World → Prop} (h : Calls P f args w R) : CallsIn (fenceAt r) n P f args w R := by
 cases r with
 | none => exact callsIn_wide.2 h
 | some l => exact (callsIn_wide.2 h).inRound l
def ARelD (ρ : Emb) (nt : Nat) (t : F) (a : Act) : Prop := ARel ρ nt t { tmps := a.tmps, defers := [] }
theorem ARel.d {ρ : Emb} {nt : Nat} {t : F} {a : Act} (A : ARel ρ nt t a) : ARelD ρ nt t a := ⟨rfl, A.size, A.slot⟩
theorem ARelD.up {ρ ρ' : Emb} {nt : Nat} {t : F} {a : Act} (A : ARelD ρ nt t a) (h : ρ.le ρ') : ARelD ρ' nt t a := ARel.up (ρ := ρ) A h
theorem ARelD.put {ρ : Emb} {nt : Nat} {t : F} {a : Act} {dst : Option Tmp} {x : Value} (A : ARel ρ nt t ((⟨a.tmps, []⟩ : Act).put dst x)) : ARelD ρ nt t (a.put dst x) := by
 cases dst <;> exact A
theorem eval_d (a : Act) : (⟨a.tmps, []⟩ : Act).eval = a.eval := by
 funext x; cases x <;> rfl
theorem NxOk.uponIn {P : Program} {r : Option Nat} {n : Nat} {o : Oper} {a : Act} {nx : Next} {w : World} {Post : Value → World → Prop} {next : Act → World → Prop} {Q : Exit → Act → World → Prop} (h : NxOk P nx w Post)
   (hn : ∀ x w', Post x w' → next (a.put o.dst x) w') : o.uponIn (fenceAt r) n P a next Q (.ok nx w) := by
 cases nx <;> try exact h.elim
 · exact hn _ _ h
 · exact hn _ _ h
 · refine ⟨fun h => ?_, callsAt (Calls.mono h fun e w' he => ?_)⟩
   · cases r <;> cases h
   · obtain ⟨x, rfl, hx⟩ := he
     exact hn _ _ hx
theorem opIn_ok {P : Program} {cf : CallF} (hcf : CfOk P cf) {nt : Nat} {ops : Array Oper} {o : Oper} {bar : Bool} {t : F} {h : H} {ih : F → H → (F → H → Bool) → Bool} {k : F → H → Bool}
   (hk : opK ⟨compG nt ops.toList o.guard, dOf nt o.dst, bar, compOp P o.op⟩ cf ih t h k = true) :
   ∃ t' h', (∀ k', opK ⟨compG nt ops.toList o.guard, dOf nt o.dst, bar, compOp P o.op⟩ cf ih t h k' = ih t' h' k') ∧ KeepF h h' ∧ B.val h.next ≤ B.val h'.next ∧
     ∀ (r : Option Nat) (n : Nat) ρ a w w0 (next : Act → World → Prop) (Q : Exit → Act → World → Prop), ARelD ρ nt t a → HRel ρ h w w0 → (∀ ρ' a' w', Ext h.floor ρ ρ' → ARelD ρ' nt t' a' → a'.defers = a.defers → HRel ρ' h' w' w0 → next a' w') →
       if Region.wanted o (yielded ops a.tmps) then o.wpIn (fenceAt r) n P a w next Q else next (a.put o.dst undef) w := by
 have e : ∀ k', opK ⟨compG nt ops.toList o.guard, dOf nt o.dst, bar, compOp P o.op⟩ cf ih t h k' = guardK (compG nt ops.toList o.guard) t fun b => opGo b (compOp P o.op) (dOf nt o.dst) cf ih t h k' := fun _ => rfl
 rw [e] at hk
 obtain ⟨b, g1, g2⟩ := guard_ok hk
 rw [g1] at hk
 have dput : ∀ (a : Act) (x : Value), (a.put o.dst x).defers = a.defers := fun a x => by cases o.dst <;> rfl
 cases b with
 | false =>
   have e2 : ∀ k', opGo false (compOp P o.op) (dOf nt o.dst) cf ih t h k' = putD (dOf nt o.dst) (.tu []) t fun t => ih t h k' := fun _ => rfl
   rw [e2] at hk
   obtain ⟨t', p1, p2⟩ := dOf_ok hk
   refine ⟨t', h, fun k' => by rw [e, g1, e2, p1], KeepF.refl h, Nat.le_refl _, fun r n ρ a w w0 next Q A R hn => ?_⟩
   have := g2 ρ ⟨a.tmps, []⟩ A.size (fun d _ hd => A.slot d hd)
   rw [this]
   simp only [Bool.false_eq_true, if_false]
   exact hn ρ _ w (Ext.refl _ ρ) (ARelD.put (p2 ρ ⟨a.tmps, []⟩ undef A ⟨#[], rfl, trivial⟩)) (dput a undef) R
 | true =>
   have e2 : ∀ k', opGo true (compOp P o.op) (dOf nt o.dst) cf ih t h k' = runK (compOp P o.op) cf t h (fun v h => putD (dOf nt o.dst) v t fun t => ih t h k') := fun _ => rfl
   rw [e2] at hk
   have hnd : ∀ c, o.op ≠ .defer c := fun c hc => by rw [hc] at hk; exact Bool.noConfusion hk
   obtain ⟨v, h', r1, r2, r3, r4, _⟩ := compOp_ok P o cf hcf t h _ hk
   rw [r1] at hk
   obtain ⟨t', p1, p2⟩ := dOf_ok hk
   refine ⟨t', h', fun k' => by rw [e, g1, e2, r1, p1], r2, r3, fun r n ρ a w w0 next Q A R hn => ?_⟩
   have := g2 ρ ⟨a.tmps, []⟩ A.size (fun d _ hd => A.slot d hd)
   rw [this]
   simp only [if_true]
   obtain ⟨nx, w1, x1, x2⟩ := r4 ρ ⟨a.tmps, []⟩ w w0 (ARel.ops A _) R
   rw [eval_d] at x1
   refine ⟨fun _ _ => trivial, ?_⟩
   rw [Oper.semAt_eq _ _ _ hnd, x1]
   exact x2.uponIn fun x w' ⟨ρ', y1, y2, y3⟩ => hn ρ' _ w' y1 (ARelD.put (p2 ρ' ⟨a.tmps, []⟩ x (ARel.up A y1.1) y2)) (dput a x) y3
theorem opsIn_rel {P : Program} {nt : Nat} {ops : Array Oper} (bars : Nat → Bool) : ∀ (l : List Oper) (m : Nat), ops.toList.drop m = l → ∀ (t : F) (h : H) (t' : F) (h' : H),
   OpsRel P (compOpsWith bars P nt ops.toList (compOp P) m l) t h t' h' → KeepF h h' ∧ B.val h.next ≤ B.val h'.next ∧
     ∀ (r : Option Nat) (n : Nat) ρ a w w0 (Q : Exit → Act → World → Prop), ARelD ρ nt t a → HRel ρ h w w0 → (∀ ρ' a' w', Ext h.floor ρ ρ' → ARelD ρ' nt t' a' → a'.defers = a.defers → HRel ρ' h' w' w0 → Q .normal a' w') →
       wpOpsIn (fenceAt r) n P ops Q (List.range' m l.length) a w := by
 intro l
 induction l with
 | nil =>
   intro m hl t h t' h' hk
   obtain ⟨rfl, rfl⟩ := hk
   exact ⟨KeepF.refl _, Nat.le_refl _, fun r n ρ a w w0 Q A R hq => hq ρ a w (Ext.refl _ ρ) A rfl R⟩
 | cons o l ih =>
   intro m hl t h t' h' hk
   obtain ⟨t1, h1, hk1, hk2⟩ := hk
   obtain ⟨cf, hcf, e⟩ := opRel_run hk1
   obtain ⟨t1', h1', a1, a2, a3, a4⟩ := opIn_ok hcf (ops := ops) (ih := fun t h k => k t h) (k := fun _ _ => true) (e _ _)
   obtain ⟨rfl, rfl⟩ := same_of (fun k => (e (fun t h k => k t h) k).symm.trans (a1 k))
   have hl' : ops.toList.drop (m + 1) = l := by rw [← List.drop_drop, hl]; rfl
   obtain ⟨b2, b3, b4⟩ := ih (m + 1) hl' _ _ _ _ hk2
   refine ⟨KeepF.trans a2 a3 b2, Nat.le_trans a3 b3, fun r n ρ a w w0 Q A R hq => ?_⟩
   have hn : ops[m]? = some o := by
     have : ops.toList[m]? = some o := by
       have := congrArg (fun l => l[0]?) hl
       simpa using this
     simpa using this
   rw [List.length_cons, List.range'_succ]
   unfold wpOpsIn
   simp only [hn]
   have := a4 r n ρ a w w0 (wpOpsIn (fenceAt r) n P ops Q (List.range' (m + 1) l.length)) Q A R fun ρ' a' w' l1 A' d1 R' => b4 r n ρ' a' w' w0 Q A' R' fun ρ'' a'' w'' l2 A'' d2 R'' => hq ρ'' a'' w'' (Ext.trans l1 (by rw [← a2.1]; exact l2)) A'' (d2.trans d1) R''
   split
   · rename_i hw; simp only [hw, if_true] at this; exact this
   · rename_i hw; simp only [hw] at this; exact ⟨fun _ _ => trivial, this⟩
section
variable {P : Program} {b : Frame} {a : Act} {k : List Item} {cs : List Frame} {w : World} {Q : Exit → Act → World → Prop} {Fn : Fence} {n : Nat}
theorem stepR_scope {c : Code} : step P (lone (b.atR a (.code (.scope c) :: k)) cs w) = .next (lone (b.atR a (.code c :: .inScope c :: k)) cs w) :=
 step_lone_go (by simp [stepG, stepG.exec, Frame.atR])
theorem stepR_inScope {c : Code} : step P (lone (b.atR a (.inScope c :: k)) cs w) = .next (lone (b.atR a k) cs w) :=
 step_lone_go (by simp [stepG, stepG.exec, Frame.atR])
theorem wpIn_scope_straight {c : Code} (h : c.wpIn Fn n P (Exit.noGoto Q) a w) : (Code.scope c).wpIn Fn n P Q a w := by
 intro b k cs hro hb hr
 have h0 : (lone (b.atR a (.code (.scope c) :: k)) cs w).fenced P Fn := fenced_calm hb hr rfl
 obtain ⟨e, a₁, w₁, hq, harr⟩ := h b (.inScope c :: k) cs hro hb hr
 cases e with
 | normal => exact ⟨.normal, a₁, w₁, hq, .head h0 stepR_scope (StepsIn.trans harr (.one (fenced_calm hb hr rfl) stepR_inScope))⟩
 | exit id =>
   have hx : exitTo id (.inScope c :: k) = exitTo id k := by simp [exitTo]
   exact ⟨.exit id, a₁, w₁, hq, fun k' hk => .head h0 stepR_scope (harr.1 k' (by rw [hx]; exact hk)), fun hr' hk => let ⟨k₁, h1, h2⟩ := harr.2 hr' (by rw [hx]; exact hk); ⟨k₁, h1, .head h0 stepR_scope h2⟩⟩
 | goto l => exact hq.elim
 | ret => exact ⟨_, a₁, w₁, hq, .of_steps (.one h0 stepR_scope) harr⟩
 | panic ch => exact ⟨_, a₁, w₁, hq, .of_steps (.one h0 stepR_scope) harr⟩
 | outgrown => exact ⟨_, a₁, w₁, hq, .of_steps (.one h0 stepR_scope) harr⟩
end
def StepsD (P : Program) (nt : Nat) (c : Code) (t : F) (h : H) (x : X) (t' : F) (h' : H) : Prop := KeepF h h' ∧ B.val h.next ≤ B.val h'.next ∧
 ∀ (r : Option Nat) (n : Nat) ρ a w w0 (Q : Exit → Act → World → Prop), ARelD ρ nt t a → HRel ρ h w w0 → (∀ ρ' a' w', Ext h.floor ρ ρ' → ARelD ρ' nt t' a' → a'.defers = a.defers → HRel ρ' h' w' w0 → Q (xOf x) a' w') → c.wpIn (fenceAt r) n P Q a w
def OkD (P : Program) (nt : Nat) (cc : CC) (t : F) (h : H) (K : X → F → H → Prop) : Prop := ∃ x t' h', (∀ c, comp P nt c = cc → StepsD P nt c t h x t' h') ∧ K x t' h'
theorem StepsD.scope {P : Program} {nt : Nat} {c : Code} {t : F} {h : H} {x : X} {t' : F} {h' : H} (a : StepsD P nt c t h x t' h') : StepsD P nt (.scope c) t h x t' h' := by
 obtain ⟨a2, a3, a4⟩ := a
 refine ⟨a2, a3, fun r n ρ a w w0 Q A R hQ => wpIn_scope_straight (a4 r n ρ a w w0 _ A R fun ρ' a' w' l1 A' d R' => ?_)⟩
 have := hQ ρ' a' w' l1 A' d R'
 cases x <;> exact this
theorem StepsD.trans {P : Program} {nt : Nat} {c1 c2 : Code} {t t1 t2 : F} {h h1 h2 : H} {x : X} (a : StepsD P nt c1 t h .normal t1 h1) (b : StepsD P nt c2 t1 h1 x t2 h2) : StepsD P nt (.seq c1 c2) t h x t2 h2 := by
 obtain ⟨a2, a3, a4⟩ := a
 obtain ⟨b2, b3, b4⟩ := b
 refine ⟨KeepF.trans a2 a3 b2, Nat.le_trans a3 b3, fun r n ρ a w w0 Q A R hQ => ?_⟩
 refine wpIn_seq (a4 r n ρ a w w0 _ A R fun ρ' a' w' l1 A' d1 R' => ?_)
 exact b4 r n ρ' a' w' w0 Q A' R' fun ρ'' a'' w'' l2 A'' d2 R'' => hQ ρ'' a'' w'' (l1.trans (by rw [← a2.1]; exact l2)) A'' (d2.trans d1) R''
theorem by_scopesD {P : Program} {nt : Nat} {t : F} {h : H} {x : X} {t' : F} {h' : H} (cc : CC)
   (base : ∀ c, comp P nt c = cc → (∀ d, c ≠ .scope d) → StepsD P nt c t h x t' h') : ∀ c, comp P nt c = cc → StepsD P nt c t h x t' h' := by
 intro c
 induction c with
 | scope d ih => intro e; exact (ih e).scope
 | _ => intro e; exact base _ e (fun d hd => by cases hd)
theorem compR_no {P : Program} {nt : Nat} {ops : List Oper} {draw : Bool} {cc : CC} (h : compRegion P nt ops draw = cc) : (∃ l, cc = .region l) ∨ (∃ l, cc = .draws l) ∨ cc = .bad := by
 unfold compRegion at h
 split at h
 · exact .inl ⟨_, h.symm⟩
 · split at h
   · exact .inr (.inl ⟨_, h.symm⟩)
   · exact .inr (.inr h.symm)
section
variable {P : Program} {nt : Nat} {t : F} {h : H} {K : X → F → H → Prop}
theorem OkD.rg {l : List CO} (a : WO P l t h (K .normal)) : OkD P nt (.region l) t h K := by
 obtain ⟨t', h', e, k⟩ := a
 refine ⟨.normal, t', h', by_scopesD _ fun c e' hs => ?_, k⟩
 cases c with
 | region id os draw =>
   have e1 : compRegion P nt os.toList draw = .region l := e'
   unfold compRegion at e1
   split at e1
   · cases e1
     obtain ⟨a2, a3, a4⟩ := opsIn_rel (fun _ => true) os.toList 0 (by simp) t h t' h' e
     refine ⟨a2, a3, fun r n ρ a w w0 Q A R hQ => wpIn_region ?_⟩
     have := a4 r n ρ a w w0 Q A R hQ
     rwa [show List.range' 0 os.toList.length = List.range os.size by rw [List.range_eq_range']; simp] at this
   · split at e1 <;> cases e1
 | scope d => exact absurd rfl (hs d)
 | _ => cases e'
theorem OkD.skip (k : K .normal t h) : OkD P nt .skip t h K := by
 refine ⟨.normal, t, h, by_scopesD _ fun c e hs => ?_, k⟩
 cases c with
 | skip => exact ⟨KeepF.refl h, Nat.le_refl _, fun r n ρ a w w0 Q A R hQ => wpIn_skip (hQ ρ a w (Ext.refl _ ρ) A rfl R)⟩
 | label l => exact ⟨KeepF.refl h, Nat.le_refl _, fun r n ρ a w w0 Q A R hQ => wpIn_label (hQ ρ a w (Ext.refl _ ρ) A rfl R)⟩
 | scope d => exact absurd rfl (hs d)
 | region id ops draw => rcases compR_no e with ⟨_, e⟩ | ⟨_, e⟩ | e <;> cases e
 | _ => cases e
theorem OkD.exit {id : Nat} (k : K (.exit id) t h) : OkD P nt (.exit id) t h K := by
 refine ⟨.exit id, t, h, by_scopesD _ fun c e hs => ?_, k⟩
 cases c with
 | exit j => cases e; exact ⟨KeepF.refl h, Nat.le_refl _, fun r n ρ a w w0 Q A R hQ => wpIn_exit (hQ ρ a w (Ext.refl _ ρ) A rfl R)⟩
 | scope d => exact absurd rfl (hs d)
 | region id ops draw => rcases compR_no e with ⟨_, e⟩ | ⟨_, e⟩ | e <;> cases e
 | _ => cases e
theorem OkD.ret (k : K .ret t h) : OkD P nt .ret t h K := by
 refine ⟨.ret, t, h, by_scopesD _ fun c e hs => ?_, k⟩
 cases c with
 | ret => exact ⟨KeepF.refl h, Nat.le_refl _, fun r n ρ a w w0 Q A R hQ => wpIn_ret (hQ ρ a w (Ext.refl _ ρ) A rfl R)⟩
 | scope d => exact absurd rfl (hs d)
 | region id ops draw => rcases compR_no e with ⟨_, e⟩ | ⟨_, e⟩ | e <;> cases e
 | _ => cases e
def SqD (P : Program) (nt : Nat) (b : CC) (K : X → F → H → Prop) : X → F → H → Prop
 | .normal, t, h => OkD P nt b t h K
 | x, t, h => K x t h
theorem sqD_n {b : CC} : SqD P nt b K .normal t h = OkD P nt b t h K := rfl
theorem OkD.sq {a b : CC} (k : OkD P nt a t h (SqD P nt b K)) : OkD P nt (.seq a b) t h K := by
 obtain ⟨x, t1, h1, a1, a2⟩ := k
 have inv : ∀ c, comp P nt c = .seq a b → (∀ d, c ≠ .scope d) → ∃ c1 c2, c = .seq c1 c2 ∧ comp P nt c1 = a ∧ comp P nt c2 = b := by
   intro c e hs
   cases c with
   | seq c1 c2 => cases e; exact ⟨c1, c2, rfl, rfl, rfl⟩
   | scope d => exact absurd rfl (hs d)
   | region id ops draw => rcases compR_no e with ⟨_, e⟩ | ⟨_, e⟩ | e <;> cases e
   | _ => cases e
 cases x with
 | normal =>
   obtain ⟨x2, t2, h2, b1, b2⟩ := a2
   refine ⟨x2, t2, h2, by_scopesD _ fun c e hs => ?_, b2⟩
   obtain ⟨c1, c2, rfl, e1, e2⟩ := inv c e hs
   exact (a1 c1 e1).trans (b1 c2 e2)
 | exit id =>
   refine ⟨_, t1, h1, by_scopesD _ fun c e hs => ?_, a2⟩
   obtain ⟨c1, c2, rfl, e1, e2⟩ := inv c e hs
   obtain ⟨s1, s2, s3⟩ := a1 c1 e1
   exact ⟨s1, s2, fun r n ρ a w w0 Q A R hQ => wpIn_seq (s3 r n ρ a w w0 _ A R fun ρ' a' w' l1 A' d R' => hQ ρ' a' w' l1 A' d R')⟩
 | ret =>
   refine ⟨_, t1, h1, by_scopesD _ fun c e hs => ?_, a2⟩
   obtain ⟨c1, c2, rfl, e1, e2⟩ := inv c e hs
   obtain ⟨s1, s2, s3⟩ := a1 c1 e1
   exact ⟨s1, s2, fun r n ρ a w w0 Q A R hQ => wpIn_seq (s3 r n ρ a w w0 _ A R fun ρ' a' w' l1 A' d R' => hQ ρ' a' w' l1 A' d R')⟩
theorem OkD.cond {o : O} {a b : CC} {q : Bool} (hq : oV o t = .b q) (ha : q = true → OkD P nt a t h K) (hb : q = false → OkD P nt b t h K) : OkD P nt (.cond o a b) t h K := by
 have inv : ∀ c, comp P nt c = .cond o a b → (∀ d, c ≠ .scope d) → ∃ x c1 c2, c = .cond x c1 c2 ∧ compO x = o ∧ comp P nt c1 = a ∧ comp P nt c2 = b := by
   intro c e hs
   cases c with
   | cond x c1 c2 => cases e; exact ⟨x, c1, c2, rfl, rfl, rfl, rfl⟩
   | scope d => exact absurd rfl (hs d)
   | region id ops draw => rcases compR_no e with ⟨_, e⟩ | ⟨_, e⟩ | e <;> cases e
   | _ => cases e
 have hev : ∀ x, compO x = o → ∀ ρ a, ARelD ρ nt t a → a.eval x = .bool q := fun x hx ρ a A => by
   have := opnd_rel A x
   rw [hx, hq, eval_d] at this; exact this
 cases q with
 | true =>
   obtain ⟨x, t1, h1, a1, a2⟩ := ha rfl
   refine ⟨x, t1, h1, by_scopesD _ fun c e hs => ?_, a2⟩
   obtain ⟨y, c1, c2, rfl, e0, e1, e2⟩ := inv c e hs
   obtain ⟨s1, s2, s3⟩ := a1 c1 e1
   exact ⟨s1, s2, fun r n ρ a w w0 Q A R hQ => wpIn_cond_true (hev y e0 ρ a A) (s3 r n ρ a w w0 Q A R hQ)⟩
 | false =>
   obtain ⟨x, t1, h1, a1, a2⟩ := hb rfl
   refine ⟨x, t1, h1, by_scopesD _ fun c e hs => ?_, a2⟩
   obtain ⟨y, c1, c2, rfl, e0, e1, e2⟩ := inv c e hs
   obtain ⟨s1, s2, s3⟩ := a1 c2 e2
   exact ⟨s1, s2, fun r n ρ a w w0 Q A R hQ => wpIn_cond_false (hev y e0 ρ a A) (s3 r n ρ a w w0 Q A R hQ)⟩
theorem OkD.block {id : Nat} {a : CC} (k : OkD P nt a t h (Out id K)) : OkD P nt (.block id a) t h K := by
 obtain ⟨x, t1, h1, a1, a2⟩ := k
 have inv : ∀ c, comp P nt c = .block id a → (∀ d, c ≠ .scope d) → ∃ c1, c = .block id c1 ∧ comp P nt c1 = a := by
   intro c e hs
   cases c with
   | block j c1 => cases e; exact ⟨c1, rfl, rfl⟩
   | scope d => exact absurd rfl (hs d)
   | region id ops draw => rcases compR_no e with ⟨_, e⟩ | ⟨_, e⟩ | e <;> cases e
   | _ => cases e
 cases x with
 | normal =>
   refine ⟨_, t1, h1, by_scopesD _ fun c e hs => ?_, a2⟩
   obtain ⟨c1, rfl, e1⟩ := inv c e hs
   obtain ⟨s1, s2, s3⟩ := a1 c1 e1
   exact ⟨s1, s2, fun r n ρ a w w0 Q A R hQ => wpIn_block (s3 r n ρ a w w0 _ A R fun ρ' a' w' l1 A' d R' => hQ ρ' a' w' l1 A' d R')⟩
 | ret =>
   refine ⟨_, t1, h1, by_scopesD _ fun c e hs => ?_, a2⟩
   obtain ⟨c1, rfl, e1⟩ := inv c e hs
   obtain ⟨s1, s2, s3⟩ := a1 c1 e1
   exact ⟨s1, s2, fun r n ρ a w w0 Q A R hQ => wpIn_block (s3 r n ρ a w w0 _ A R fun ρ' a' w' l1 A' d R' => hQ ρ' a' w' l1 A' d R')⟩
 | exit j =>
   by_cases hj : j = id
   · have a2' : K .normal t1 h1 := by
       have : (if j = id then K .normal t1 h1 else K (.exit j) t1 h1) := a2
       rwa [if_pos hj] at this
     refine ⟨_, t1, h1, by_scopesD _ fun c e hs => ?_, a2'⟩
     obtain ⟨c1, rfl, e1⟩ := inv c e hs
     obtain ⟨s1, s2, s3⟩ := a1 c1 e1
     refine ⟨s1, s2, fun r n ρ a w w0 Q A R hQ => wpIn_block (s3 r n ρ a w w0 _ A R fun ρ' a' w' l1 A' d R' => ?_)⟩
     show (if j = id then Q .normal a' w' else Q (.exit j) a' w')
     rw [if_pos hj]; exact hQ ρ' a' w' l1 A' d R'
   · have a2' : K (.exit j) t1 h1 := by
       have : (if j = id then K .normal t1 h1 else K (.exit j) t1 h1) := a2
       rwa [if_neg hj] at this
     refine ⟨_, t1, h1, by_scopesD _ fun c e hs => ?_, a2'⟩
     obtain ⟨c1, rfl, e1⟩ := inv c e hs
     obtain ⟨s1, s2, s3⟩ := a1 c1 e1
     refine ⟨s1, s2, fun r n ρ a w w0 Q A R hQ => wpIn_block (s3 r n ρ a w w0 _ A R fun ρ' a' w' l1 A' d R' => ?_)⟩
     show (if j = id then Q .normal a' w' else Q (.exit j) a' w')
     rw [if_neg hj]; exact hQ ρ' a' w' l1 A' d R'
theorem OkD.cd {o : O} {a b : CC} (c : CD (oV o t) (OkD P nt a t h K) (OkD P nt b t h K)) : OkD P nt (.cond o a b) t h K := by
 obtain ⟨q, hq, ha, hb⟩ := c
 exact OkD.cond hq ha hb
end
section
variable {P : Program} {nt : Nat} {t : F} {h : H} {K : X → F → H → Prop} {a b : CC} {l : List CO} {id : Nat} {o : O}
instance : St (OkD P nt (.seq a b) t h K) (OkD P nt a t h (SqD P nt b K)) := ⟨OkD.sq⟩
instance : St (OkD P nt (.block id a) t h K) (OkD P nt a t h (Out id K)) := ⟨OkD.block⟩
instance : St (OkD P nt (.region l) t h K) (WO P l t h (K .normal)) := ⟨OkD.rg⟩
instance : St (OkD P nt (.cond o a b) t h K) (CD (oV o t) (OkD P nt a t h K) (OkD P nt b t h K)) := ⟨OkD.cd⟩
instance : St (OkD P nt .skip t h K) (K .normal t h) := ⟨OkD.skip⟩
instance : St (OkD P nt (.exit id) t h K) (K (.exit id) t h) := ⟨OkD.exit⟩
instance : St (OkD P nt .ret t h K) (K .ret t h) := ⟨OkD.ret⟩
end
end Go.Ev

set_option linter.all false
namespace Go.Ev
open Go
def pinB (c : Nat) : Blk := ⟨c, c + 9, 0, .o, 0, 0⟩
def LocP (b : Nat) (o : Obj) (h : ∀ c e f, o ≠ .cells c e f) : Loc := ⟨b, 0, 0, 0, some (.obj o h)⟩
structure Bump (b : B) (h h' : H) : Prop where
 keep : KeepF h h'
 stay : Stay (fun i => i = b) h h'
 next : h'.next = h.next
 pin : ∃ c, h.heap.get b = some (pinB c) ∧ h'.heap.get b = some (pinB (c + 1)) ∧
     ∀ (ρ : Emb) (w w' w0 : World) (L0 : Loc) (o : ItO), HRel ρ h w w0 → ρ b 0 = some L0 → (∀ q : Nat, q ≠ L0.b → w'.heap[q]? = w.heap[q]?) → w'.heap.size = w.heap.size → w'.tape = w.tape → w'.os = w.os → w'.output = w.output → w'.heap[L0.b]? = some (objOf o) →
       ∃ ρ', Ext h.floor ρ ρ' ∧ ρ' b (c + 1) = some ⟨L0.b, L0.s, 0, L0.cs, some o⟩ ∧ HRel ρ' h' w' w0
theorem bump_of {h : H} {b : B} {c : Nat} (hb : h.heap.get b = some (pinB c)) (hfl : B.val h.floor ≤ B.val b) : ∃ h', Bump b h h' := by
 obtain ⟨h', a1, a2, a3, a4, a5⟩ := bump_ex hb (by show c < c + 9; omega) hfl
 exact ⟨h', a1, a2, a3, c, hb, a4, a5⟩
structure PinL (ρ : Emb) (h : H) (b : B) (q : Nat) (o : Obj) : Prop where
 ex : ∃ c hn, h.heap.get b = some (pinB c) ∧ ρ b c = some (LocP q o hn)
 zero : ∃ o0, ρ b 0 = some ⟨q, 0, 0, 0, o0⟩
theorem PinL.at {ρ : Emb} {h : H} {w w0 : World} {b : B} {q : Nat} {o : Obj} (p : PinL ρ h b q o) (R : HRel ρ h w w0) : w.heap[q]? = some o := by
 obtain ⟨c, hn, h1, h2⟩ := p.ex
 exact R.ito b c _ _ _ h2 h1 rfl (by show c + 9 = c + 9; rfl) rfl
theorem PinL.up {ρ ρ' : Emb} {h h' : H} {b : B} {q : Nat} {o : Obj} (p : PinL ρ h b q o) (hle : ρ.le ρ') (e : h'.heap.get b = h.heap.get b) : PinL ρ' h' b q o := by
 obtain ⟨⟨c, hn, h1, h2⟩, o0, h3⟩ := p
 exact ⟨⟨c, hn, e.trans h1, hle _ _ _ h2⟩, o0, hle _ _ _ h3⟩
theorem Bump.put {ρ : Emb} {h h' : H} {w w0 : World} {b : B} {q : Nat} {o o' : Obj} (u : Bump b h h') (R : HRel ρ h w w0) (p : PinL ρ h b q o) (hn : ∀ c e f, o' ≠ .cells c e f) :
   ∃ ρ', Ext h.floor ρ ρ' ∧ HRel ρ' h' (w.putObj q o') w0 ∧ PinL ρ' h' b q o' := by
 obtain ⟨c, g1, g2, g3⟩ := u.pin
 obtain ⟨o0, z⟩ := p.zero
 have hat := p.at R
 have hlt := (Array.getElem?_eq_some_iff.1 hat).1
 obtain ⟨ρ', e1, e2, e3⟩ := g3 ρ w (w.putObj q o') w0 _ (.obj o' hn) R z (fun i hi => World.putObj_heap_other hi) World.putObj_size rfl rfl rfl (World.putObj_heap_same hlt)
 exact ⟨ρ', e1, e3, ⟨c + 1, hn, g2, e2⟩, o0, e1.1 _ _ _ z⟩
def IterSl (P : Program) (gI n : Nat) (ord : Nat → Nat → Nat) : Prop :=
 ∀ (l bx b off len : Nat), len * 1000 ≤ 140737488351232 → ∀ (J : Nat → World → Prop) (Jx : World → Prop),
   (∀ k W, k ≤ len → J k W → ∃ ao cap, W.cell? ⟨bx, 0, none⟩ = some (.slice ao len cap) ∧ (len = 0 ∨ ao = some ⟨b, off, none⟩)) →
   (∀ k W, k < len → J k W → ∃ cs : List Value, cs.length = n ∧ (∀ (j : Nat) x, cs[j]? = some x → W.cell? ⟨b, off + ord len k * n + j, none⟩ = some x) ∧
     YieldAt Fence.wide 0 P l #[.int .i64 ((ord len k : Nat) : Int), .agg cs.toArray] W fun e W' => (e = .returned (.bool true) ∧ J (k + 1) W') ∨ (e = .returned (.bool false) ∧ Jx W')) →
   ∀ W, J 0 W → CallsIn Fence.wide 1 P gI #[.func (.yield l) #[] #[], .pointer (some ⟨bx, 0, none⟩)] W fun e W' => (∃ v, e = .returned v) ∧ (J len W' ∨ Jx W')
section
variable {α : Type} [Inhabited α] {P : Program} {nt n : Nat} {ca cb : CC} {p1 p2 : Nat} {t2 : F} {b0 b1 b2 : B} {ord : Nat → Nat → Nat} {v : V} {c : α → List V} {L : List α}
def offP (b0 b1 b2 : B) : B → Prop := fun i => i ≠ b0 ∧ i ≠ b1 ∧ i ≠ b2
def RfRound (P : Program) (nt : Nat) (ca cb : CC) (p1 p2 : Nat) (t2 : F) (b0 b1 b2 : B) (ord : Nat → Nat → Nat) (c : α → List V) (L : List α) (k : Nat) (h : H) (x : X) (h' : H) : Prop :=
 ∃ t1 ha hb tb hc, (∀ cd, comp P nt cd = ca → StepsD P nt cd (put p2 (.a (c (L.getD (ord L.length k) default))) (put p1 (.i .i64 ((ord L.length k : Nat) : Int)) t2)) h .normal t1 ha) ∧ Stay (offP b0 b1 b2) h ha ∧ Bump b2 ha hb ∧
   (∀ cd, comp P nt cd = cb → StepsD P nt cd t1 hb x tb hc) ∧ Stay (offP b0 b1 b2) hb hc ∧ Bump b2 hc h'
inductive RfTr (P : Program) (nt n : Nat) (ca cb : CC) (p1 p2 : Nat) (t2 : F) (b0 b1 b2 : B) (ord : Nat → Nat → Nat) (v : V) (c : α → List V) (L : List α) : Nat → H → Option X → H → Prop
 | done {h : H} : Ss n c h v L → RfTr P nt n ca cb p1 p2 t2 b0 b1 b2 ord v c L L.length h none h
 | go {k : Nat} {h h' he : H} {xe : Option X} : k < L.length → Ss n c h v L → RfRound P nt ca cb p1 p2 t2 b0 b1 b2 ord c L k h .normal h' → RfTr P nt n ca cb p1 p2 t2 b0 b1 b2 ord v c L (k + 1) h' xe he → RfTr P nt n ca cb p1 p2 t2 b0 b1 b2 ord v c L k h xe he
 | out {k : Nat} {h h' : H} {x : X} : k < L.length → Ss n c h v L → x ≠ .normal → RfRound P nt ca cb p1 p2 t2 b0 b1 b2 ord c L k h x h' → RfTr P nt n ca cb p1 p2 t2 b0 b1 b2 ord v c L k h (some x) h'
structure RfSpec (P : Program) (nt n : Nat) (ca cb : CC) (p1 p2 : Nat) (t2 : F) (b0 b1 b2 : B) (ord : Nat → Nat → Nat) (v : V) (c : α → List V) (L : List α) (Inv : Nat → H → Prop) (Kx : X → H → Prop) : Prop where
 sl : ∀ k h, Inv k h → Ss n c h v L
 round : ∀ k h, k < L.length → Inv k h → OkD P nt ca (put p2 (.a (c (L.getD (ord L.length k) default))) (put p1 (.i .i64 ((ord L.length k : Nat) : Int)) t2)) h fun x t1 ha => x = .normal ∧ Stay (offP b0 b1 b2) h ha ∧
   ∀ hb, Stay (fun i => i = b2) ha hb → OkD P nt cb t1 hb fun x tb hc => Stay (offP b0 b1 b2) hb hc ∧ ∀ h', Stay (fun i => i = b2) hc h' → match x with
     | .normal => Inv (k + 1) h'
     | x => Kx x h'
theorem RfRound.keeps {asn bd : Code} (ea : comp P nt asn = ca) (eb : comp P nt bd = cb) {k : Nat} {h h' : H} {x : X} (r : RfRound P nt ca cb p1 p2 t2 b0 b1 b2 ord c L k h x h') (n0 : b0 ≠ b2) (n1 : b1 ≠ b2) (l0 : B.val b0 < B.val h.next) (l1 : B.val b1 < B.val h.next) :
   KeepF h h' ∧ B.val h.next ≤ B.val h'.next ∧ h'.heap.get b1 = h.heap.get b1 ∧ h'.heap.get b0 = h.heap.get b0 := by
 obtain ⟨t1, ha, hb, tb, hc, s1, st1, u1, s2, st2, u2⟩ := r
 obtain ⟨a1, a2, _⟩ := s1 asn ea
 obtain ⟨c1, c2, _⟩ := s2 bd eb
 have k1 : KeepF h hb := KeepF.trans a1 a2 u1.keep
 have k2 : KeepF h hc := KeepF.trans k1 (by rw [u1.next]; exact a2) c1
 have e : ∀ b, b = b0 ∨ b = b1 → b ≠ b2 → B.val b < B.val h.next → h'.heap.get b = h.heap.get b := fun b hb01 hn hl => by
   have hno : ¬ offP b0 b1 b2 b := fun ho => hb01.elim ho.1 ho.2.1
   rw [u2.stay.get b (by rw [← u1.next] at a2; omega) hn, st2.get b (by rw [u1.next]; omega) hno, u1.stay.get b (by omega) hn, st1.get b hl hno]
 exact ⟨KeepF.trans k2 (by rw [← u1.next] at a2; omega) u2.keep, by rw [u2.next, ← u1.next] at *; omega, e b1 (.inr rfl) n1 l1, e b0 (.inl rfl) n0 l0⟩
theorem RfSpec.tr {Inv : Nat → H → Prop} {Kx : X → H → Prop} (S : RfSpec P nt n ca cb p1 p2 t2 b0 b1 b2 ord v c L Inv Kx) {asn bd : Code} (ea : comp P nt asn = ca) (eb : comp P nt bd = cb) (n0 : b0 ≠ b2) (n1 : b1 ≠ b2) :
   ∀ (m k : Nat) (h : H), L.length - k = m → k ≤ L.length → Inv k h → (∃ g, h.heap.get b2 = some (pinB g)) → B.val h.floor ≤ B.val b2 → B.val b2 < B.val h.next → B.val b0 < B.val h.next → B.val b1 < B.val h.next →
     ∃ xe he, RfTr P nt n ca cb p1 p2 t2 b0 b1 b2 ord v c L k h xe he ∧ KeepF h he ∧ B.val h.next ≤ B.val he.next ∧ he.heap.get b1 = h.heap.get b1 ∧ he.heap.get b0 = h.heap.get b0 ∧ (∃ g, he.heap.get b2 = some (pinB g)) ∧ (match xe with
       | none => Inv L.length he
       | some x => Kx x he) := by
 intro m
 induction m with
 | zero =>
   intro k h hm hk hI hg hf hl _ _
   obtain rfl : k = L.length := by omega
   exact ⟨none, h, .done (S.sl _ _ hI), KeepF.refl h, Nat.le_refl _, rfl, rfl, hg, hI⟩
 | succ m ih =>
   intro k h hm hk hI hg hf hl l0 l1
   have hlt : k < L.length := by omega
   obtain ⟨g, hg⟩ := hg
   obtain ⟨x1, t1, ha, s1, rfl, st1, hbody⟩ := S.round k h hlt hI
   obtain ⟨a1, a2, _⟩ := s1 asn ea
   have ga : ha.heap.get b2 = some (pinB g) := (st1.get b2 hl fun ho => ho.2.2 rfl).trans hg
   obtain ⟨hb, u1⟩ := bump_of ga (by rw [a1.1]; exact hf)
   obtain ⟨x, tb, hc, s2, st2, hK⟩ := hbody hb u1.stay
   obtain ⟨c1, c2, _⟩ := s2 bd eb
   obtain ⟨g', g1, g2, _⟩ := u1.pin
   have hl2 : B.val b2 < B.val hb.next := by rw [u1.next]; omega
   have gc : hc.heap.get b2 = some (pinB (g' + 1)) := (st2.get b2 hl2 fun ho => ho.2.2 rfl).trans g2
   obtain ⟨h', u2⟩ := bump_of gc (by rw [c1.1, u1.keep.1, a1.1]; exact hf)
   have rr : RfRound P nt ca cb p1 p2 t2 b0 b1 b2 ord c L k h x h' := ⟨t1, ha, hb, tb, hc, s1, st1, u1, s2, st2, u2⟩
   obtain ⟨k1, k2, k3, k4⟩ := rr.keeps ea eb n0 n1 l0 l1
   obtain ⟨g'', _, g3, _⟩ := u2.pin
   have hk' := hK h' u2.stay
   cases x with
   | normal =>
     obtain ⟨xe, he, tr, q1, q2, q3, q4, q5, q6⟩ := ih (k + 1) h' (by omega) hlt hk' ⟨_, g3⟩ (by rw [k1.1]; exact hf) (by omega) (by omega) (by omega)
     exact ⟨xe, he, .go hlt (S.sl _ _ hI) rr tr, KeepF.trans k1 k2 q1, by omega, q3.trans k3, q4.trans k4, q5, q6⟩
   | exit i => exact ⟨some (.exit i), h', .out hlt (S.sl _ _ hI) (by intro e; cases e) rr, k1, k2, k3, k4, ⟨_, g3⟩, hk'⟩
   | ret => exact ⟨some .ret, h', .out hlt (S.sl _ _ hI) (by intro e; cases e) rr, k1, k2, k3, k4, ⟨_, g3⟩, hk'⟩
theorem own_ltU {h : H} {id : B} {xs : List V} (o : Own h id xs) : B.val id < B.val h.next := by obtain ⟨_, _, _, _, _, _, h6, _⟩ := o; exact h6
structure PinNew (h h' : H) : Prop where
 keep : KeepF h h'
 stay : Stay nowhere h h'
 next : B.val h'.next = B.val h.next + 1
 got : h'.heap.get h.next = some (pinB 0)
 rel : ∀ (ρ : Emb) (w w0 : World) (o : ItO), HRel ρ h w w0 → ∃ ρ', Ext h.floor ρ ρ' ∧ ρ' h.next 0 = some ⟨w.heap.size, 0, 0, 0, some o⟩ ∧ HRel ρ' h' (w.alloc (objOf o)) w0
theorem pinNew (h : H) : ∃ h', PinNew h h' := by
 obtain ⟨h', a1, a2, a3, a4, a5⟩ := pin_ex h
 exact ⟨h', a1, a2, a3, a4, a5⟩
theorem ss_box {ρ : Emb} {h : H} {w w0 : World} {bx : Nat} (R : HRel ρ h w w0) (o : Own h b0 [v]) (hb : ρ b0 0 = some ⟨bx, 0, 1, 1, none⟩) : ∃ x, VRel ρ v x ∧ w.cell? ⟨bx, 0, none⟩ = some x := by
 obtain ⟨xs, x1, x2⟩ := loadN_cells (n := 1) (fin := 1) (fun k => loadN_row o.row rfl (by simp) (Nat.le_refl 1) k) R hb (Nat.le_refl _) (Nat.le_refl _)
 match xs, x1 with
 | [x], x1 => exact ⟨x, x1.1, x2 0 x rfl⟩
theorem ss_elem {ρ : Emb} {h : H} {w w0 : World} {id : B} {g off len fin i : Nat} {cap : Option Nat} {Lc : Loc} (R : HRel ρ h w w0) (hc : ∀ e, (c e).length = n) (hn : 1 ≤ n) (S : Ss n c h (.l id g off len fin cap) L) (hL : ρ id g = some Lc) (hs : Lc.s ≤ off) (hf : fin ≤ Lc.e) (hi : i < L.length) :
   ∃ xs, LRel ρ (c (L.getD i default)) xs ∧ ∀ (j : Nat) x, xs[j]? = some x → w.cell? ⟨Lc.b, off - Lc.s + i * n + j, none⟩ = some x := by
 rcases S with ⟨e, _⟩ | ⟨id', g', off', fin', cap', e, h1, h2, r⟩
 · cases e
 cases e
 have h3 : (i + 1) * n ≤ L.length * n := Nat.mul_le_mul_right n hi
 rw [Nat.add_mul] at h3
 have hlen := hc (L.getD i default)
 have hrow : Row h id g (off + i * n) (c (L.getD i default)) := by
   refine ⟨fun _ => r.1 ?_, fun j y hy => ?_⟩
   · intro e
     have h4 := fm_len hc L
     rw [e] at h4
     have h5 : L.length * n = 0 := h4.symm
     omega
   · have hj : j < n := by rw [← hlen]; exact (List.getElem?_eq_some_iff.1 hy).1
     have e := fm_get hc hi hj
     rw [List.getD, hy] at e
     have := r.2 (i * n + j) _ e
     rw [← Nat.add_assoc] at this
     exact this
 obtain ⟨xs, x1, x2⟩ := loadN_cells (n := n) (off := off + i * n) (fin := fin) (fun k => loadN_row hrow hlen (by intro e; rw [e] at hlen; simp at hlen; omega) (by omega) k) R hL (by omega) hf
 refine ⟨xs, x1, fun j x hx => ?_⟩
 have := x2 j x hx
 rwa [show off + i * n - Lc.s + j = off - Lc.s + i * n + j by omega] at this
theorem arelD_put {ρ : Emb} {t : F} {a : Act} {d : Nat} {u : V} {x : Value} (A : ARelD ρ nt t a) (hv : VRel ρ u x) (h1 : d < nt) (h2 : d < 512) : ARelD ρ nt (put d u t) (a.put (some d) x) := arel_put A hv h1 h2
def jumpOf : X → Code
 | .exit id => .exit id
 | _ => .ret
theorem rf_run {asn bd : Code} (ea : comp P nt asn = ca) (eb : comp P nt bd = cb) {gI it : Nat} (hiter : IterSl P gI n ord) (hord : ∀ len k, k < len → ord len k < len) (eg : ∀ args w, (callFunc gI args).run P w = .ok (.enter gI args) w) (hn : 1 ≤ n) (hc : ∀ e, (c e).length = n) (hlen : L.length * 1000 ≤ 140737488351232)
   (hp : p1 < nt ∧ p1 < 512 ∧ p2 < nt ∧ p2 < 512) {ρ : Emb} {a : Act} {w w0 : World} {h2 h3 h4 he hF : H} {xe : Option X} {BX m : Nat} (hit : a.eval (.tmp it) = .func (.func gI) #[] #[.pointer (some ⟨BX, 0, none⟩)]) (A : ARelD ρ nt t2 a) (R : HRel ρ h2 w w0) (hbx : ρ b0 0 = some ⟨BX, 0, 1, 1, none⟩) (ob : Own h2 b0 [v])
   (n1 : PinNew h2 h3) (e1 : b1 = h2.next) (n2 : PinNew h3 h4) (e2 : b2 = h3.next) (tr : RfTr P nt n ca cb p1 p2 t2 b0 b1 b2 ord v c L 0 h4 xe he) (uF : Bump b2 he hF)
   {Q : Exit → Act → World → Prop} (hQ : ∀ ρ' W' D, Ext h2.floor ρ ρ' → HRel ρ' hF W' w0 → PinL ρ' hF b1 D (.deferred (some [])) → Q (xOf (xe.getD .normal)) { a with defers := { target := .collected D, args := #[] } :: a.defers } W') :
   (Code.rangeFunc (.tmp it) #[p1, p2] asn bd).wpIn Fence.wide m P Q a w := by
 have l0 := own_ltU ob
 have hx2 : B.val h3.next = B.val h2.next + 1 := n1.next
 have hx3 : B.val h4.next = B.val h3.next + 1 := n2.next
 have v1 : B.val b1 = B.val h2.next := by rw [e1]
 have v2 : B.val b2 = B.val h3.next := by rw [e2]
 have n02 : b0 ≠ b2 := fun e => by rw [e] at l0; omega
 have n12 : b1 ≠ b2 := fun e => by rw [e] at v1; omega
 have fl4 : h4.floor = h2.floor := n2.keep.1.trans n1.keep.1
 have g04 : h4.heap.get b0 = h2.heap.get b0 := (n2.stay.get b0 (by omega) fun e => e).trans (n1.stay.get b0 l0 fun e => e)
 refine wpIn_rangeFunc ?_
 intro fn hfn
 rw [show Fence.wide.round = none from rfl]
 obtain ⟨rec, hrec⟩ : ∃ rec : LoopState → Option Code → Loop, rec = fun st pe => { state := st, pending := pe, fn, tmps := a.tmps, params := #[p1, p2], assign := asn, body := bd, defers := w.heap.size } := ⟨_, rfl⟩
 obtain ⟨D, hD⟩ : ∃ D, D = w.heap.size := ⟨_, rfl⟩
 have nd : ∀ c e f, Obj.deferred (some []) ≠ .cells c e f := fun _ _ _ e => by cases e
 have nl : ∀ r c e f, Obj.loop r ≠ .cells c e f := fun _ _ _ _ e => by cases e
 obtain ⟨ρ3, x3, y3, R3⟩ := n1.rel ρ w w0 (.obj (.deferred (some [])) nd) R
 obtain ⟨ρ4, x4, y4, R4⟩ := n2.rel ρ3 _ w0 (.obj (.loop (rec .ready none)) (nl _)) R3
 rw [alloc_size] at y4
 rw [n1.keep.1] at x4
 have g34 : h4.heap.get b1 = some (pinB 0) := by rw [n2.stay.get b1 (by omega) (fun e => e), e1]; exact n1.got
 have pd4 : PinL ρ4 h4 b1 D (.deferred (some [])) := ⟨⟨0, nd, g34, x4.1 _ _ _ (by rw [e1, hD]; exact y3)⟩, _, x4.1 _ _ _ (by rw [e1, hD]; exact y3)⟩
 have pl4 : PinL ρ4 h4 b2 (D + 1) (.loop (rec .ready none)) := ⟨⟨0, nl _, by rw [e2]; exact n2.got, by rw [e2, hD]; exact y4⟩, _, by rw [e2, hD]; exact y4⟩
 have X4 : Ext h2.floor ρ ρ4 := Ext.trans x3 x4
 let J : Nat → World → Prop := fun k W => ∃ h ρ', RfTr P nt n ca cb p1 p2 t2 b0 b1 b2 ord v c L k h xe he ∧ h.floor = h2.floor ∧ Ext h2.floor ρ4 ρ' ∧ HRel ρ' h W w0 ∧ h.heap.get b0 = h2.heap.get b0 ∧ B.val h4.next ≤ B.val h.next ∧ PinL ρ' h b1 D (.deferred (some [])) ∧ PinL ρ' h b2 (D + 1) (.loop (rec .ready none))
 let Jx : World → Prop := fun W => ∃ x ρ', xe = some x ∧ x ≠ .normal ∧ he.floor = h2.floor ∧ Ext h2.floor ρ4 ρ' ∧ HRel ρ' he W w0 ∧ B.val h4.next ≤ B.val he.next ∧ PinL ρ' he b1 D (.deferred (some [])) ∧ PinL ρ' he b2 (D + 1) (.loop (rec .done (some (jumpOf x))))
 have J0 : J 0 ((w.alloc (.deferred (some []))).alloc (.loop (rec .ready none))) := ⟨h4, ρ4, tr, fl4, Ext.refl _ _, R4, g04, Nat.le_refl _, pd4, pl4⟩
 have own0 : ∀ {h : H}, h.floor = h2.floor → h.heap.get b0 = h2.heap.get b0 → B.val h4.next ≤ B.val h.next → Own h b0 [v] := fun {h} hf hg hn => by
   obtain ⟨blk, q1, q2, q3, q4, q5, q6, q7⟩ := ob
   exact ⟨blk, hg.trans q1, q2, q3, q4, by rw [hf]; exact q5, by omega, q7⟩
 have ssk : ∀ {k h}, RfTr P nt n ca cb p1 p2 t2 b0 b1 b2 ord v c L k h xe he → Ss n c h v L := fun {k h} t => by
   cases t with
   | done s => exact s
   | go _ s => exact s
   | out _ s => exact s
 -- where the slice lies
 obtain ⟨bb, oo, hbo⟩ : ∃ bb oo, L.length = 0 ∨ ∃ id g off fin cap Lc, v = .l id g off L.length fin cap ∧ ρ4 id g = some Lc ∧ Lc.s ≤ off ∧ fin ≤ Lc.e ∧ bb = Lc.b ∧ oo = off - Lc.s := by
   by_cases hz : L.length = 0
   · exact ⟨0, 0, .inl hz⟩
   · obtain ⟨x, hx, _⟩ := ss_box R4 (own0 fl4 g04 (Nat.le_refl _)) (X4.1 _ _ _ hbx)
     rcases ssk tr with ⟨_, e⟩ | ⟨id, g, off, fin, cap, rfl, _⟩
     · rw [e] at hz; exact absurd rfl hz
     · obtain ⟨Lc, ad, cc, q1, q2, q3, q4, q5, _⟩ := hx
       exact ⟨Lc.b, off - Lc.s, .inr ⟨id, g, off, fin, cap, Lc, rfl, q1, q4, q5, rfl, rfl⟩⟩
 have hJb : ∀ k W, k ≤ L.length → J k W → ∃ ao cap, W.cell? ⟨BX, 0, none⟩ = some (.slice ao L.length cap) ∧ (L.length = 0 ∨ ao = some ⟨bb, oo, none⟩) := by
   rintro k W hk ⟨h, ρ', t, f1, x1, R1, g1, q1, _, _⟩
   obtain ⟨x, hx, hcell⟩ := ss_box R1 (own0 f1 g1 q1) (x1.1 _ _ _ (X4.1 _ _ _ hbx))
   rcases hbo with hz | ⟨id, g, off, fin, cap, Lc, rfl, r1, r2, r3, rfl, rfl⟩
   · rcases ssk t with ⟨rfl, e⟩ | ⟨id, g, off, fin, cap, rfl, _⟩
     · obtain rfl : x = .slice none 0 0 := hx
       exact ⟨none, 0, by rw [hcell, hz], .inl hz⟩
     · obtain ⟨Lc, ad, cc, q1, rfl, _⟩ := hx
       exact ⟨_, _, hcell, .inl hz⟩
   · obtain ⟨Lc', ad, cc, q1, rfl, q3, q4, q5, q6, _⟩ := hx
     have : Lc' = Lc := by have := x1.1 _ _ _ r1; rw [q1] at this; exact Option.some.inj this
     subst this
     refine ⟨_, _, hcell, ?_⟩
     rcases q6 with ⟨hz, _⟩ | rfl
     · exact .inl hz
     · exact .inr rfl
 have hJr : ∀ k W, k < L.length → J k W → ∃ cs : List Value, cs.length = n ∧ (∀ (j : Nat) x, cs[j]? = some x → W.cell? ⟨bb, oo + ord L.length k * n + j, none⟩ = some x) ∧
     YieldAt Fence.wide 0 P (D + 1) #[.int .i64 ((ord L.length k : Nat) : Int), .agg cs.toArray] W fun e W' => (e = .returned (.bool true) ∧ J (k + 1) W') ∨ (e = .returned (.bool false) ∧ Jx W') := by
   rintro k W hk ⟨h, ρ', t, f1, x1, R1, g1, q1, pd, pl⟩
   have hok := hord _ _ hk
   rcases hbo with hz | ⟨id, g, off, fin, cap, Lc, rfl, r1, r2, r3, rfl, rfl⟩
   · omega
   obtain ⟨xs, y1, y2⟩ := ss_elem R1 hc hn (ssk t) (x1.1 _ _ _ r1) r2 r3 hok
   have hxl : xs.length = n := by rw [← y1.length]; exact hc _
   refine ⟨xs, hxl, y2, ?_⟩
   obtain ⟨x, h', hr, hnext⟩ : ∃ x h', RfRound P nt ca cb p1 p2 t2 b0 b1 b2 ord c L k h x h' ∧ ((x = .normal ∧ RfTr P nt n ca cb p1 p2 t2 b0 b1 b2 ord (.l id g off L.length fin cap) c L (k + 1) h' xe he) ∨ (x ≠ .normal ∧ xe = some x ∧ h' = he)) := by
     cases t with
     | done _ => omega
     | go _ _ r t => exact ⟨_, _, r, .inl ⟨rfl, t⟩⟩
     | out _ _ hx r => exact ⟨_, _, r, .inr ⟨hx, rfl, rfl⟩⟩
   have l0h : B.val b0 < B.val h.next := by omega
   have l1h : B.val b1 < B.val h.next := by omega
   have l2h : B.val b2 < B.val h.next := by omega
   obtain ⟨kk1, kk2, kk3, kk4⟩ := hr.keeps ea eb n02 n12 l0h l1h
   obtain ⟨t1, ha, hb, tb, hc', s1, st1, u1, s2, st2, u2⟩ := hr
   obtain ⟨a1, a2, a3⟩ := s1 asn ea
   obtain ⟨c1, c2, c3⟩ := s2 bd eb
   have hl := pl.at R1
   have hy := run_yield (P := P) (args := #[.int .i64 ((ord L.length k : Nat) : Int), .agg xs.toArray]) hl (by rw [hrec]; rfl)
   rw [hrec] at hy
   refine ⟨fn, _, asn, bd, hy, roundIn_of_wpIn trivial ?_⟩
   have A1 : ARelD ρ' nt (put p2 (.a (c (L.getD (ord L.length k) default))) (put p1 (.i .i64 ((ord L.length k : Nat) : Int)) t2)) { tmps := ((#[p1, p2] : Array Nat).zip #[Value.int .i64 ((ord L.length k : Nat) : Int), .agg xs.toArray]).foldl (fun t (p, v) => t.setIfInBounds p v) a.tmps, defers := [] } := by
     have A0 : ARelD ρ' nt t2 ⟨a.tmps, []⟩ := ARelD.up (ρ := ρ) A (Emb.le_trans X4.1 x1.1)
     have v1 : VRel ρ' (.i .i64 ((ord L.length k : Nat) : Int)) (.int .i64 ((ord L.length k : Nat) : Int)) := rfl
     have v2 : VRel ρ' (.a (c (L.getD (ord L.length k) default))) (.agg xs.toArray) := ⟨_, rfl, by simpa using y1⟩
     have v3 := arelD_put (arelD_put A0 v1 hp.1 hp.2.1) v2 hp.2.2.1 hp.2.2.2
     simp only [List.zip_toArray, List.zip_cons_cons, List.zip_nil_right, List.foldl_toArray', List.foldl_toArray, List.foldl_cons, List.foldl_nil]
     exact v3
   refine a3 (some (D + 1)) 0 ρ' _ W w0 _ A1 R1 fun ρ1 a1' W1 z1 z2 z3 z4 => ?_
   have pl1 : PinL ρ1 ha b2 (D + 1) (.loop (rec .ready none)) := pl.up z1.1 (st1.get b2 l2h fun e => e.2.2 rfl)
   have pd1 : PinL ρ1 ha b1 D (.deferred (some [])) := pd.up z1.1 (st1.get b1 l1h fun e => e.2.1 rfl)
   have hl1 := pl1.at z4
   refine ⟨_, run_beginRound hl1 (by rw [hrec]), ?_⟩
   obtain ⟨ρ2, o1, o2, o3⟩ := u1.put z4 pl1 (o' := .loop { rec .ready none with state := .busy }) (nl _)
   have pd2 : PinL ρ2 hb b1 D (.deferred (some [])) := pd1.up o1.1 (u1.stay.get b1 (by omega) n12)
   refine c3 (some (D + 1)) 0 ρ2 a1' _ w0 _ (z2.up o1.1) o2 fun ρ3' a3' W3 m1 m2 m3 m4 => ?_
   have pl3 : PinL ρ3' hc' b2 (D + 1) (.loop { rec .ready none with state := .busy }) := o3.up m1.1 (st2.get b2 (by rw [u1.next]; omega) fun e => e.2.2 rfl)
   have pd3 : PinL ρ3' hc' b1 D (.deferred (some [])) := pd2.up m1.1 (st2.get b1 (by rw [u1.next]; omega) fun e => e.2.1 rfl)
   have hl3 := pl3.at m4
   have lnc : B.val h4.next ≤ B.val hc'.next := by rw [u1.next] at c2; omega
   have fin : ∀ (jump : Option Code), ∃ ρ5, Ext h2.floor ρ4 ρ5 ∧ HRel ρ5 h' (W3.putObj (D + 1) (.loop (rec (if jump.isNone then .ready else .done) jump))) w0 ∧ PinL ρ5 h' b1 D (.deferred (some [])) ∧ PinL ρ5 h' b2 (D + 1) (.loop (rec (if jump.isNone then .ready else .done) jump)) ∧
       (Instr.endRound (D + 1) jump).run P W3 = .ok (.bool jump.isNone) (W3.putObj (D + 1) (.loop (rec (if jump.isNone then .ready else .done) jump))) := fun jump => by
     obtain ⟨ρ5, w1, w2, w3⟩ := u2.put m4 pl3 (o' := .loop (rec (if jump.isNone then .ready else .done) jump)) (nl _)
     have run : (Instr.endRound (D + 1) jump).run P W3 = .ok (.bool jump.isNone) (W3.putObj (D + 1) (.loop (rec (if jump.isNone then .ready else .done) jump))) := by
       have := run_endRound (P := P) jump hl3
       rw [hrec] at this ⊢
       exact this
     have ef : hc'.floor = h2.floor := by rw [c1.1, u1.keep.1, a1.1, f1]
     refine ⟨ρ5, ?_, w2, pd3.up w1.1 (u2.stay.get b1 (by omega) n12), w3, run⟩
     rw [ef] at w1
     rw [u1.keep.1, a1.1, f1] at m1
     rw [a1.1, f1] at o1
     rw [f1] at z1
     exact (((x1.trans z1).trans o1).trans m1).trans w1
   have fl' : h'.floor = h2.floor := kk1.1.trans f1
   have ln' : B.val h4.next ≤ B.val h'.next := by omega
   rcases hnext with ⟨rfl, t'⟩ | ⟨hx, hxe, rfl⟩
   · obtain ⟨ρ5, w1, w2, w3, w4, w5⟩ := fin none
     exact ⟨_, _, w5, .inl ⟨rfl, h', ρ5, t', fl', w1, w2, kk4.trans g1, ln', w3, w4⟩⟩
   · cases x with
     | normal => exact absurd rfl hx
     | exit i =>
       obtain ⟨ρ5, w1, w2, w3, w4, w5⟩ := fin (some (.exit i))
       exact ⟨_, _, w5, .inr ⟨rfl, .exit i, ρ5, hxe, hx, fl', w1, w2, ln', w3, w4⟩⟩
     | ret =>
       obtain ⟨ρ5, w1, w2, w3, w4, w5⟩ := fin (some .ret)
       exact ⟨_, _, w5, .inr ⟨rfl, .ret, ρ5, hxe, hx, fl', w1, w2, ln', w3, w4⟩⟩
 obtain ⟨W1, hW1⟩ : ∃ W1, (w.alloc (.deferred (some []))).alloc (.loop (rec .ready none)) = W1 := ⟨_, rfl⟩
 rw [hW1] at J0
 have hcall := hiter (D + 1) BX bb oo L.length hlen J Jx hJb hJr W1 J0
 refine ⟨D + 1, [{ target := .collected D, args := #[] }], W1, { target := .fn (.func gI) #[.pointer (some ⟨BX, 0, none⟩)], args := #[.func (.yield (D + 1)) #[] #[]] }, W1, gI, #[.func (.yield (D + 1)) #[] #[]] ++ #[.pointer (some ⟨BX, 0, none⟩)], W1, ?_, ?_, fun _ _ => trivial, ?_, fun h => (by cases h), ?_⟩
 · rw [← hW1, hD, hrec]; exact run_enterLoop_outer _ _ _ _ _
 · simp only [resolve, hit]
   simp [go_sem]
 · simp [invoke, go_sem, eg]
 refine callsIn_wide.2 ((callsIn_wide.1 hcall).mono ?_)
 have lst : ∀ ρ' W o, Ext h2.floor ρ4 ρ' → HRel ρ' he W w0 → he.floor = h2.floor → B.val h4.next ≤ B.val he.next → PinL ρ' he b1 D (.deferred (some [])) → PinL ρ' he b2 (D + 1) (.loop o) → ∃ ρ'', Ext h2.floor ρ ρ'' ∧ HRel ρ'' hF (W.putObj (D + 1) (.loop { o with state := .exhausted })) w0 ∧ PinL ρ'' hF b1 D (.deferred (some [])) := fun ρ' W o x1 R1 f1 q1 pd pl => by
   obtain ⟨ρ5, w1, w2, w3⟩ := uF.put R1 pl (o' := .loop { o with state := .exhausted }) (nl _)
   rw [f1] at w1
   exact ⟨ρ5, (X4.trans x1).trans w1, w2, pd.up w1.1 (uF.stay.get b1 (by omega) n12)⟩
 rintro e W2 ⟨⟨u, rfl⟩, ⟨h, ρ', t, f1, x1, R1, g1, q1, pd, pl⟩ | ⟨x, ρ', hxe, hx, f1, x1, R1, q1, pd, pl⟩⟩
 · have hh : xe = none ∧ h = he := by
     generalize hk : L.length = k at t
     cases t with
     | done _ => exact ⟨rfl, rfl⟩
     | go hlt => omega
     | out hlt => omega
   obtain ⟨hxe, rfl⟩ := hh
   obtain ⟨ρ'', w1, w2, w3⟩ := lst ρ' W2 _ x1 R1 f1 q1 pd pl
   refine ⟨_, _, run_endLoop (P := P) (pl.at R1) (by rw [hrec]; simp), ?_⟩
   have := hQ ρ'' _ D w1 w2 w3
   rw [hxe] at this
   rw [hrec] at this ⊢
   exact this
 · obtain ⟨ρ'', w1, w2, w3⟩ := lst ρ' W2 _ x1 R1 f1 q1 pd pl
   refine ⟨_, _, run_endLoop (P := P) (pl.at R1) (by rw [hrec]; simp), ?_⟩
   have := hQ ρ'' _ D w1 w2 w3
   rw [hxe] at this
   rw [hrec] at this ⊢
   cases x with
   | normal => exact absurd rfl hx
   | exit i => exact wpIn_exit this
   | ret => exact wpIn_ret this
end
theorem opsIn_pre {P : Program} {nt : Nat} {ops : Array Oper} (bars : Nat → Bool) (rest : List Oper) : ∀ (l : List Oper) (m : Nat), ops.toList.drop m = l ++ rest → ∀ (t : F) (h : H) (t' : F) (h' : H),
   OpsRel P (compOpsWith bars P nt ops.toList (compOp P) m l) t h t' h' → KeepF h h' ∧ B.val h.next ≤ B.val h'.next ∧
     ∀ (r : Option Nat) (n : Nat) ρ a w w0 (Q : Exit → Act → World → Prop), ARelD ρ nt t a → HRel ρ h w w0 → (∀ ρ' a' w', Ext h.floor ρ ρ' → ARelD ρ' nt t' a' → a'.defers = a.defers → HRel ρ' h' w' w0 → wpOpsIn (fenceAt r) n P ops Q (List.range' (m + l.length) rest.length) a' w') →
       wpOpsIn (fenceAt r) n P ops Q (List.range' m (l.length + rest.length)) a w := by
 intro l
 induction l with
 | nil =>
   intro m hl t h t' h' hk
   obtain ⟨rfl, rfl⟩ := hk
   exact ⟨KeepF.refl _, Nat.le_refl _, fun r n ρ a w w0 Q A R hq => by simpa using hq ρ a w (Ext.refl _ ρ) A rfl R⟩
 | cons o l ih =>
   intro m hl t h t' h' hk
   obtain ⟨t1, h1, hk1, hk2⟩ := hk
   obtain ⟨cf, hcf, e⟩ := opRel_run hk1
   obtain ⟨t1', h1', a1, a2, a3, a4⟩ := opIn_ok hcf (ops := ops) (ih := fun t h k => k t h) (k := fun _ _ => true) (e _ _)
   obtain ⟨rfl, rfl⟩ := same_of (fun k => (e (fun t h k => k t h) k).symm.trans (a1 k))
   have hl' : ops.toList.drop (m + 1) = l ++ rest := by rw [← List.drop_drop, hl]; rfl
   obtain ⟨b2, b3, b4⟩ := ih (m + 1) hl' _ _ _ _ hk2
   refine ⟨KeepF.trans a2 a3 b2, Nat.le_trans a3 b3, fun r n ρ a w w0 Q A R hq => ?_⟩
   have hn : ops[m]? = some o := by
     have : ops.toList[m]? = some o := by
       have := congrArg (fun l => l[0]?) hl
       simpa using this
     simpa using this
   rw [show (o :: l).length + rest.length = (l.length + rest.length) + 1 by simp; omega, List.range'_succ]
   unfold wpOpsIn
   simp only [hn]
   have := a4 r n ρ a w w0 (wpOpsIn (fenceAt r) n P ops Q (List.range' (m + 1) (l.length + rest.length))) Q A R fun ρ' a' w' l1 A' d1 R' => b4 r n ρ' a' w' w0 Q A' R' fun ρ'' a'' w'' l2 A'' d2 R'' => by
     have := hq ρ'' a'' w'' (Ext.trans l1 (by rw [← a2.1]; exact l2)) A'' (d2.trans d1) R''
     rwa [show m + (o :: l).length = m + 1 + l.length by simp; omega] at this
   split
   · rename_i hw; simp only [hw, if_true] at this; exact this
   · rename_i hw; simp only [hw] at this; exact ⟨fun _ _ => trivial, this⟩
theorem opsIn_call {P : Program} {ops : Array Oper} {Q : Exit → Act → World → Prop} {m n it : Nat} {o : Oper} {f : FuncId} {x : Operand} {tys : Array TypeId} {a : Act} {w : World} (hd : ops.toList.drop m = [o]) (hg : o.guard = none) (ho : o.op = .call ⟨.value (.func f), #[x], tys⟩) (hdst : o.dst = some it)
   (eg : (callFunc f #[a.eval x]).run P w = .ok (.enter f #[a.eval x]) w) (hc : Calls P f #[a.eval x] w fun e w' => ∃ y, e = .returned y ∧ Q .normal (a.put (some it) y) w') : wpOpsIn Fence.wide n P ops Q (List.range' m 1) a w := by
 have hn : ops[m]? = some o := by
   have : ops.toList[m]? = some o := by
     have := congrArg (fun l => l[0]?) hd
     simpa using this
   simpa using this
 show wpOpsIn Fence.wide n P ops Q [m] a w
 unfold wpOpsIn
 simp only [hn, wanted_none hg, if_true]
 refine ⟨fun _ _ => trivial, ?_⟩
 have hr : (o.semAt Fence.wide.round a.eval).run P w = .ok (.enter f #[a.eval x]) w := by
   show (execOp a.eval o).run P w = _
   unfold execOp
   rw [ho]
   simp only [Sem.run_bind, run_resolve_value P w a.eval f #[x] tys o.type rfl, Result.andThen_ok, invoke]
   rw [← eg]
   simp
 rw [hr]
 refine ⟨fun h => (by cases h), callsIn_wide.2 (hc.mono ?_)⟩
 rintro e w' ⟨y, rfl, hq⟩
 show wpOpsIn Fence.wide n P ops Q [] (a.put o.dst y) w'
 rw [hdst]; exact hq
theorem h_same {h1 h2 : H} {b : B} (e : ∀ k : B → H → Bool, k b h1 = k b h2) : h2 = h1 := by
 have := e fun _ h => @decide (h = h1) (Classical.propDecidable _)
 simp at this
 exact this
section
variable {α : Type} [Inhabited α] {P : Program} {nt n : Nat} {ca cb xA xB xC xD : CC} {p1 p2 it out elB : Nat} {ord : Nat → Nat → Nat} {c : α → List V} {x : Operand} {rs : List Rs} {K : V → H → Prop}
def RfEnd (P : Program) (nt : Nat) (xD : CC) (rs : List Rs) (t2 : F) (b1 : B) (K : V → H → Prop) (hF : H) : Prop :=
 OkD P nt xD t2 hF fun x t h' => Stay (fun i => i ≠ b1) hF h' ∧ ∀ h'', Stay (fun i => i = b1) h' h'' → FnK rs K x t h''
def RfLoop (P : Program) (nt n : Nat) (ca cb xD : CC) (p1 p2 it out elB : Nat) (ord : Nat → Nat → Nat) (c : α → List V) (x : Operand) (rs : List Rs) (K : V → H → Prop) (t4 : F) (h4 : H) : Prop :=
 ∃ (v : V) (L : List α), oV (compO x) t4 = v ∧ Ss n c h4 v L ∧ L.length * 1000 ≤ 140737488351232 ∧ B.val h4.floor ≤ B.val h4.next ∧
   ∀ h5 h6 h7, Stay nowhere h4 h5 → B.val h5.next = B.val h4.next + 1 → PinNew h5 h6 → PinNew h6 h7 →
     ∃ Inv Kx, Inv 0 h7 ∧ RfSpec P nt n ca cb p1 p2 (put it .u t4) h4.next h5.next h6.next ord v c L Inv Kx ∧
       (∀ he hF, Inv L.length he → Stay (fun i => i = h6.next) he hF → RfEnd P nt xD rs (put it .u t4) h5.next K hF) ∧
       (∀ x he hF, Kx x he → Stay (fun i => i = h6.next) he hF → x = .exit out ∧ RfEnd P nt xD rs (put it .u t4) h5.next K hF)
theorem fn_rf {f : FuncId} {fn : Func} {cA cB cC cD asn bd : Code} {idr gB gI : Nat} {ops : Array Oper} {oC : Oper} {cpre : List CO} {tys : Array TypeId} {vs : List V} {h : H}
   (hfn : P.funcs.toList[f]? = some fn) (hb : fn.body = some (.seq cA (.scope (.seq cB (.seq cC (.seq (.seq (.region idr ops false) (.block out (.rangeFunc (.tmp it) #[p1, p2] asn bd))) cD)))))) (hnm : (fn.name == "runtime.NumGoroutine") = false) (hnt : fn.ntmps = nt)
   (hrs : fn.results.toList.map (rsOf P) = rs) (hl1 : vs.length ≤ nt) (hl2 : vs.length ≤ 512)
   (hlast : ops.toList.getLast? = some oC) (hpre : compOpsWith (fun _ => true) P nt ops.toList (compOp P) 0 ops.toList.dropLast = cpre) (hoC : oC.op = .call ⟨.value (.func gB), #[x], tys⟩) (hdst : oC.dst = some it) (hg : oC.guard = none)
   (eA : comp P nt cA = xA) (eB : comp P nt cB = xB) (eC : comp P nt cC = xC) (eD : comp P nt cD = xD) (ea : comp P nt asn = ca) (eb : comp P nt bd = cb)
   (hcall : ∀ ao len cap w, Calls P gB #[.slice ao len cap] w fun e w' => e = .returned (.func (.func gI) #[] #[.pointer (some ⟨w.heap.size, 0, none⟩)]) ∧ w' = w.alloc (.cells #[.slice ao len cap] elB))
   (egB : ∀ args w, (callFunc gB args).run P w = .ok (.enter gB args) w) (egI : ∀ args w, (callFunc gI args).run P w = .ok (.enter gI args) w) (hiter : IterSl P gI n ord) (hord : ∀ len k, k < len → ord len k < len) (hn : 1 ≤ n) (hc : ∀ e, (c e).length = n)
   (hp : p1 < nt ∧ p1 < 512 ∧ p2 < nt ∧ p2 < 512) (hit : it < nt ∧ it < 512)
   (ok : OkD P nt xA (slotsF vs 0 F.zero) h fun x1 t1 h1 => x1 = .normal ∧ OkD P nt xB t1 h1 fun x2 t2 h2 => x2 = .normal ∧ OkD P nt xC t2 h2 fun x3 t3 h3 => x3 = .normal ∧
     WO P cpre t3 h3 (RfLoop P nt n ca cb xD p1 p2 it out elB ord c x rs K)) : FnOk P f vs h K := by
 subst hnt
 obtain ⟨pre, hops⟩ : ∃ pre, ops.toList = pre ++ [oC] := List.getLast?_eq_some_iff.1 hlast
 have hpd : ops.toList.dropLast = pre := by rw [hops]; simp
 rw [hpd] at hpre
 subst hpre
 obtain ⟨_, t1, h1, sA, rfl, _, t2, h2, sB, rfl, _, t3, h3, sC, rfl, t4, h4, hrel, v, L, hv, hS, hlen, hf4, hloop⟩ := ok
 have sA := sA cA eA
 have sB := sB cB eB
 have sC := sC cC eC
 obtain ⟨kA, nA, wA⟩ := sA
 obtain ⟨kB, nB, wB⟩ := sB
 obtain ⟨kC, nC, wC⟩ := sC
 obtain ⟨kR, nR, wR⟩ := opsIn_pre (ops := ops) (fun _ => true) [oC] pre 0 (by simp [hops]) t3 h3 t4 h4 hrel
 obtain ⟨h5, l1, l2, l3, blk, l4, l5, l6, l7, l8, l9, l10⟩ := alloc_new elB [v] h4 (by show 1 < _; decide)
 obtain ⟨h5', m1, m2, m3, m4⟩ := alloc_ok (el := elB) (cs := [v]) (h := h4) (k := fun _ _ => true) (by rw [l1])
 obtain rfl : h5' = h5 := h_same fun k => (l1 k).symm.trans (m1 k)
 have ob : Own h5' h4.next [v] := ⟨blk, l4, l6, l5, l9, by rw [l2.floor]; exact hf4, by omega, l10⟩
 obtain ⟨h6, n1⟩ := pinNew h5'
 obtain ⟨h7, n2⟩ := pinNew h6
 obtain ⟨Inv, Kx, i0, S, hdone, hout⟩ := hloop h5' h6 h7 l2 l3 n1 n2
 have x6 := n1.next
 have x7 := n2.next
 have fl5 : h5'.floor = h4.floor := m2.1
 have fl7 : h7.floor = h4.floor := (n2.keep.1.trans n1.keep.1).trans fl5
 have n02 : h4.next ≠ h6.next := fun e => by rw [← e] at x6; omega
 have n12 : h5'.next ≠ h6.next := fun e => by rw [← e] at x6; omega
 obtain ⟨xe, he, tr, q1, q2, q3, q4, ⟨g, q5⟩, q6⟩ := S.tr ea eb n02 n12 L.length 0 h7 (by omega) (Nat.zero_le _) i0 ⟨0, n2.got⟩ (by rw [fl7]; omega) (by omega) (by omega) (by omega)
 obtain ⟨hF, uF⟩ := bump_of q5 (by rw [q1.1, fl7]; omega)
 have hend : (xe = none ∨ xe = some (.exit out)) ∧ RfEnd P fn.ntmps xD rs (put it .u t4) h5'.next K hF := by
   cases xe with
   | none => exact ⟨.inl rfl, hdone _ _ q6 uF.stay⟩
   | some x =>
     obtain ⟨rfl, h⟩ := hout x _ _ q6 uF.stay
     exact ⟨.inr rfl, h⟩
 obtain ⟨hxe, xd, t8, h8, sD, st8, hK⟩ := hend
 obtain ⟨kD, nD, wD⟩ := sD cD eD
 have g8 : h8.heap.get h5'.next = some (pinB 0) := by
   rw [st8.get _ (by rw [uF.next]; omega) (fun e => e rfl), uF.stay.get _ (by omega) n12, q3, n2.stay.get _ (by omega) fun e => e]
   exact n1.got
 obtain ⟨h9, u9⟩ := bump_of g8 (by rw [kD.1, uF.keep.1, q1.1, fl7]; omega)
 have hK9 := hK h9 u9.stay
 have hfin : ∃ us, (∀ k : List V → Bool, resK rs t8 h9 k = k us) ∧ K (one us) h9 ∧ (xd = .normal ∨ xd = .ret) := by
   cases xd with
   | normal => obtain ⟨us, r1, r2⟩ := hK9; exact ⟨us, r1, r2, .inl rfl⟩
   | ret => obtain ⟨us, r1, r2⟩ := hK9; exact ⟨us, r1, r2, .inr rfl⟩
   | exit i => exact absurd hK9 (fun h => h)
 obtain ⟨us, r1, r2, hxd⟩ := hfin
 have n5 : B.val h4.next ≤ B.val h5'.next := by omega
 have nn : B.val h.next ≤ B.val h4.next := by omega
 have kk4 : KeepF h h4 := KeepF.trans (KeepF.trans (KeepF.trans kA nA kB) (by omega) kC) (by omega) kR
 have kk7 : KeepF h4 h7 := KeepF.trans (KeepF.trans m2 n5 n1.keep) (by omega) n2.keep
 have kkF : KeepF h4 hF := KeepF.trans (KeepF.trans kk7 (by omega) q1) (by omega) uF.keep
 have kk9 : KeepF h4 h9 := KeepF.trans (KeepF.trans kkF (by rw [uF.next]; omega) kD) (by rw [uF.next] at nD; omega) u9.keep
 refine ⟨one us, h9, ⟨KeepF.trans kk4 nn kk9, by rw [u9.next]; rw [uF.next] at nD; omega, fun ρ w w0 args hargs R => ?_⟩, r2⟩
 have hfn' : P.funcs[f]? = some fn := by simpa using hfn
 have hal := hargs.length
 obtain ⟨t0, s1, s2, s3⟩ := slots_ok vs 0 F.zero (fun _ => true) (by omega)
 have ht0 : t0 = slotsF vs 0 F.zero := by
   have := s1 fun u => @decide (u = t0) (Classical.propDecidable _)
   rw [slots_slotsF] at this
   simp at this
   exact this.symm
 constructor
 · have hp : (program : Sem Program).run P w = .ok P w := rfl
   unfold callFunc
   simp only [Sem.run_bind, hp, Result.andThen_ok, hfn', hnm, Bool.false_eq_true, if_false, hb, Option.isNone_some]
   rfl
 have A0 : ARel ρ fn.ntmps t0 { tmps := args.toArray ++ Array.replicate (fn.ntmps - args.toArray.size) undef, defers := [] } := by
   refine ⟨rfl, by simp; omega, fun m hm => ?_⟩
   by_cases hmv : m < vs.length
   · have hv : vs[m]? = some (vs[m]'hmv) := by simp
     obtain ⟨y, y1, y2⟩ := hargs.get hv
     have := s2 m _ hv
     rw [Nat.zero_add] at this
     rw [this]
     have hy : (args.toArray ++ Array.replicate (fn.ntmps - args.toArray.size) undef).getD m undef = y := by
       have hma : m < args.length := by omega
       rw [Array.getD_eq_getD_getElem?, Array.getElem?_append_left (by simpa using hma)]
       simp [y1]
     rw [hy]; exact y2
   · rw [s3 m hm (.inr (by omega)), zero_slot]; trivial
 rw [ht0] at A0
 refine (callsIn_wide (n := 0)).1 (callsIn_of_wp_marks hfn' hb trivial ?_ rfl)
 refine wpIn_seq (wA none 0 ρ _ w w0 _ A0.d R fun ρA aA WA eA' AA dA RA => ?_)
 refine wpIn_scope_straight (wpIn_seq (wB none 0 ρA aA WA w0 _ AA RA fun ρB aB WB eB' AB dB RB => ?_))
 refine wpIn_seq (wC none 0 ρB aB WB w0 _ AB RB fun ρC aC WC eC' AC dC RC => ?_)
 refine wpIn_seq (wpIn_seq (wpIn_region ?_))
 rw [show List.range ops.size = List.range' 0 (pre.length + [oC].length) by rw [List.range_eq_range', ← Array.length_toList, hops]; simp]
 refine wR none 0 ρC aC WC w0 _ AC RC fun ρR aR WR eR AR dR RR => ?_
 have d0 : aR.defers = [] := dR.trans (dC.trans (dB.trans (dA.trans rfl)))
 -- the call
 have hvx : VRel ρR v (aR.eval x) := by
   have := opnd_rel AR x
   rw [hv, eval_d] at this; exact this
 obtain ⟨ao, len, cap, hx⟩ : ∃ ao len cap, aR.eval x = .slice ao len cap := by
   rcases hS with ⟨rfl, _⟩ | ⟨id, g, off, fin, cap, rfl, _⟩
   · exact ⟨none, 0, 0, hvx⟩
   · obtain ⟨Lc, ad, cc, _, e, _⟩ := hvx
     exact ⟨_, _, _, e⟩
 refine opsIn_call (by rw [hops]; simp) hg hoC hdst (egB _ _) ?_
 rw [hx]
 refine (hcall ao len cap WR).mono ?_
 rintro e w5 ⟨rfl, rfl⟩
 refine ⟨_, rfl, ?_⟩
 obtain ⟨ρ5, z1, z2, z3⟩ := m4 ρR WR w0 #[.slice ao len cap] 0 1 RR (Nat.le_refl _) rfl (fun i u y hu hy => by
   cases i with
   | zero =>
     have hu : some v = some u := hu
     have hy : some (Value.slice ao len cap) = some y := hy
     rw [← Option.some.inj hu, ← Option.some.inj hy, ← hx]; exact hvx
   | succ i => cases hu) rfl
 have A5 : ARelD ρ5 fn.ntmps (put it .u t4) (aR.put (some it) (.func (.func gI) #[] #[.pointer (some ⟨WR.heap.size, 0, none⟩)])) := arelD_put (AR.up z1.1) trivial hit.1 hit.2
 have hev : (aR.put (some it) (.func (.func gI) #[] #[.pointer (some ⟨WR.heap.size, 0, none⟩)])).eval (.tmp it) = .func (.func gI) #[] #[.pointer (some ⟨WR.heap.size, 0, none⟩)] := by
   have hsz : aR.tmps.size = fn.ntmps := AR.size
   show (aR.tmps.setIfInBounds it _).getD it undef = _
   rw [Array.getD_eq_getD_getElem?, Array.getElem?_setIfInBounds_self_of_lt (by rw [hsz]; exact hit.1)]; rfl
 refine wpIn_block (rf_run ea eb hiter hord egI hn hc hlen hp hev A5 z3 z2 ob n1 rfl n2 rfl tr uF fun ρF WF D xF RF pF => ?_)
 -- behind the loop
 have goD : cD.wpIn Fence.wide 0 P (Exit.noGoto (bodyPostM Fence.wide 0 P fn fun e w' => ∃ x, e = .returned x ∧ Done h.floor ρ w0 (one us) h9 x w')) { (aR.put (some it) (.func (.func gI) #[] #[.pointer (some ⟨WR.heap.size, 0, none⟩)])) with defers := { target := .collected D, args := #[] } :: aR.defers } WF := by
   have AF : ARelD ρF fn.ntmps (put it .u t4) { (aR.put (some it) (.func (.func gI) #[] #[.pointer (some ⟨WR.heap.size, 0, none⟩)])) with defers := { target := .collected D, args := #[] } :: aR.defers } := A5.up xF.1
   refine wD none 0 ρF _ WF w0 _ AF RF fun ρD aD WD xD' AD dD RD => ?_
   have pD : PinL ρD h8 h5'.next D (.deferred (some [])) := pF.up xD'.1 (st8.get _ (by rw [uF.next]; omega) fun e => e rfl)
   obtain ⟨ρ9, w1, w2, _⟩ := u9.put RD pD (o' := .deferred none) (fun _ _ _ e => by cases e)
   have dd : aD.defers = { target := .collected D, args := #[] } :: [] := by rw [dD]; show _ :: aR.defers = _; rw [d0]
   have hXt : Ext h.floor ρ ρ9 := by
     have f5 : h4.floor = h.floor := kk4.1
     rw [kA.1] at eB'
     rw [kB.1, kA.1] at eC'
     rw [kC.1, kB.1, kA.1] at eR
     rw [f5] at z1
     rw [fl5, f5] at xF
     rw [uF.keep.1, q1.1, fl7, f5] at xD'
     rw [kD.1, uF.keep.1, q1.1, fl7, f5] at w1
     exact (((((eA'.trans eB').trans eC').trans eR).trans z1).trans xF).trans (xD'.trans w1)
   obtain ⟨us', r3, r4⟩ := results_ok (nt := fn.ntmps) (fn := fn) (P := P) (t := t8) (h := h9) (k := fun _ => true) (by rw [hrs, r1])
   have hus : us' = us := by
     have := r3 fun u => @decide (u = us') (Classical.propDecidable _)
     rw [hrs, r1] at this
     simp at this
     exact this.symm
   subst hus
   obtain ⟨y, y1, y2⟩ := r4 ρ9 ⟨aD.tmps, []⟩ _ w0 (ARel.up AD w1.1) w2
   have lv : LeavesInM Fence.wide 0 P fn aD.tmps (fun e w' => ∃ x, e = .returned x ∧ Done h.floor ρ w0 (one us') h9 x w') aD.defers .returning WD := by
     rw [dd]
     exact ⟨(by simp), .inl ⟨D, _, rfl, run_takeDeferred (pD.at RD), y, y2, y, rfl, ρ9, hXt, y1, w2⟩⟩
   rcases hxd with rfl | rfl
   · exact lv
   · exact lv
 rcases hxe with rfl | rfl
 · exact goD
 · show (if out = out then _ else _)
   rw [if_pos rfl]; exact goD
end
end Go.Ev

set_option linter.all false
namespace Go.Proofs.Ytjlhfoadabkahaa
open Go Go.RowKit Go.Shelf Go.Proofs
attribute [local go_sem] Oper.semAt_some
set_option maxRecDepth 100000 in
set_option maxHeartbeats 2000000 in
theorem back_call (a : Option Addr) (len cap : Nat) (w : World) :
   CallsIn Fence.wide 0 Try.prog 55 #[.slice a len cap] w fun e w' => e = .returned (.func (.func 79) #[] #[.pointer (some ⟨w.heap.size, 0, none⟩)]) ∧ w' = w.alloc (.cells #[.slice a len cap] 74) := by
 refine callsIn_of_wp Try.func55 rfl trivial ?_ rfl
 simp only [Try.ntmps55, List.size_toArray, List.length_cons, List.length_nil, Nat.reduceAdd, Nat.reduceSub, Array.replicate_succ, Array.replicate_zero, List.push_toArray, List.append_toArray, List.nil_append, List.cons_append]
 gi_wp2
 go_ret
 exact ⟨rfl, rfl⟩
set_option maxRecDepth 100000 in
set_option maxHeartbeats 4000000 in
theorem back_iter : Go.Ev.IterSl Try.prog 79 6 (fun len k => len - 1 - k) := by
 intro l bx b off len hreach J Jx hJ hY W h0
 obtain ⟨ao0, cap0, hbx, _⟩ := hJ 0 W (Nat.zero_le _) h0
 have h1 : 1 ≤ 1 := Nat.le_refl 1
 refine callsIn_of_wp Try.func79 rfl trivial ?_ rfl
 simp only [Try.ntmps79, List.size_toArray, List.length_cons, List.length_nil, Nat.reduceAdd, Nat.reduceSub, Array.replicate_succ, Array.replicate_zero, List.push_toArray, List.append_toArray, List.nil_append, List.cons_append]
 gi_wp2
 gi_loopw [3] (fun i wr => ∃ k : Nat, k ≤ len ∧ i = .int .i64 ((len : Int) - 1 - (k : Int)) ∧ J k wr)
   (fun i _ => (intOf i + 1).toNat)
 case atStart => exact ⟨0, Nat.zero_le _, by simp, h0⟩
 case round =>
   obtain ⟨k, hk, rfl, hJs⟩ := hrel
   obtain ⟨ao, cap, hbxk, hao⟩ := hJ k wr hk hJs
   by_cases hlt : k < len
   · obtain ⟨cs, hcs, hcell, fn, tmps, assign, body, hy, hR⟩ := hY k wr hlt hJs
     obtain ⟨c0, c1, c2, c3, c4, c5, rfl⟩ : ∃ c0 c1 c2 c3 c4 c5, cs = [c0, c1, c2, c3, c4, c5] := by
       match cs, hcs with
       | [c0, c1, c2, c3, c4, c5], _ => exact ⟨_, _, _, _, _, _, rfl⟩
     obtain rfl : ao = some ⟨b, off, none⟩ := hao.resolve_left (by omega)
     have hki : ((len : Int) - 1 - (k : Int)) = ((len - 1 - k : Nat) : Int) := by omega
     rw [hki]
     have e0 := hcell 0 _ rfl
     have e1 := hcell 1 _ rfl
     have e2 := hcell 2 _ rfl
     have e3 := hcell 3 _ rfl
     have e4 := hcell 4 _ rfl
     have e5 := hcell 5 _ rfl
     clear hcell
     generalize hm : len - 1 - k = m at *
     simp only [Nat.add_zero] at e0
     have hmlt : m < len := by omega
     gi_wp2
     refine hR.mono ?_
     rintro e W3 (⟨rfl, hJ3⟩ | ⟨rfl, hJx3⟩)
     · gi_wp2
       go_roundw
       case rel => exact ⟨k + 1, by omega, by congr 1; omega, hJ3⟩
       case measure => simp [intOf]
     · gi_wp2
       refine bodyPost_ret (results_none rfl _ _ _) rfl ?_
       exact ⟨⟨_, rfl⟩, .inr hJx3⟩
   · obtain rfl : k = len := by omega
     gi_wp2
     go_end0
     exact ⟨⟨_, rfl⟩, .inl hJs⟩
end Go.Proofs.Ytjlhfoadabkahaa

set_option maxRecDepth 1000000
set_option linter.all false
namespace Go.Proofs.Ytjlhfoadabkahaa
open Go Go.Ev
noncomputable abbrev xA28 : CC := (CC.region [(wB 3 (doBox 25 (tm 0))), (wB 5 (doBox 3 (tm 2)))])
noncomputable abbrev xB28 : CC := (CC.region [(wB 9 (doMove (tm 1))), (wB 10 (doLoad (tm 3))), (wB 11 (doNilCheck (tm 10))), (wB 12 (doFieldAddr 2 (tm 11))), (wB 13 (doLoad (tm 12))), (wB 14 (doLen (tm 13))), (wB 15 (doCall 49 [(tm 9), (tm 14)])), (wB 6 (doAlloc 3 [(V.i IntKind.i64 (Int.ofNat 0))])), (CO.mk G.none D.none Bool.true (CR.mk (doStore 1 (tm 6) (tm 15))))])
noncomputable abbrev xC28 : CC := CC.skip
noncomputable abbrev s28_0 : CC := (CC.region [(wB 8 (doAlloc 84 [(V.i IntKind.i64 (Int.ofNat 0)), (V.s 0 0), (V.s 0 0), (V.i IntKind.i64 (Int.ofNat 0)), V.l0, (V.b Bool.false)])), (CO.mk G.none D.none Bool.true (CR.mk (doStore 6 (tm 8) (tm 22))))])
noncomputable abbrev ca28 : CC := (CC.seq (CC.region [(wB 7 (doMove (tm 21)))]) s28_0)
noncomputable abbrev s28_1 : CC := (CC.region [(wB 27 (doLoad (tm 3))), (wB 28 (doLoadA 6 (tm 8))), (wB 29 (doCall 56 [(tm 27), (tm 28), (oN 0)]))])
noncomputable abbrev s28_2 : CC := (CC.region [(wB 34 (doLoad (tm 3))), (wB 35 (doLoadA 6 (tm 8))), (wB 36 (doLoad (tm 5))), (wB 37 (doCall 56 [(tm 34), (tm 35), (tm 36)]))])
noncomputable abbrev s28_3 : CC := (CC.cond (tm 30) s28_2 (CC.exit 0))
noncomputable abbrev s28_4 : CC := (CC.seq (CC.region [(wB 31 (doMove (tm 7))), (wB 32 (doLoad (tm 6))), (wB 33 (bin2 fEql (tm 31) (tm 32))), (wB 30 (doMove (tm 33)))]) s28_3)
noncomputable abbrev s28_5 : CC := (CC.cond (tm 23) s28_1 s28_4)
noncomputable abbrev s28_6 : CC := (CC.seq (CC.region [(wB 24 (doMove (tm 7))), (wB 25 (doLoad (tm 6))), (wB 26 (bin2 fGtr (tm 24) (tm 25))), (wB 23 (doMove (tm 26)))]) s28_5)
noncomputable abbrev s28_7 : CC := (CC.block 2 s28_6)
noncomputable abbrev cb28 : CC := (CC.block 1 s28_7)
noncomputable abbrev xD28 : CC := (CC.region [(wB 38 (doLoad (tm 3))), (wB 39 (doNilCheck (tm 38))), (wB 40 (doFieldAddr 2 (tm 39))), (CO.mk G.none D.none Bool.true (CR.mk (doStore 1 (tm 40) (O.c V.l0))))])
noncomputable abbrev pre28 : List CO := [(wB 16 (doLoad (tm 3))), (wB 17 (doNilCheck (tm 16))), (wB 18 (doFieldAddr 2 (tm 17))), (wB 19 (doLoad (tm 18)))]
end Go.Proofs.Ytjlhfoadabkahaa

set_option maxRecDepth 100000
set_option maxHeartbeats 8000000
set_option linter.all false
namespace Go.Proofs.Ytjlhfoadabkahaa
open Go Go.Ev
section
variable {h h' : H} {s : B} {mp lo : V} {X : Xs} {U W : List AB} {K : List Fi} {A : List DA} {D : DS} {n m rm : Int} {i : Nat}
theorem ShM.kept (S : ShM h s mp lo X U W rm) (o : Ev.Own h' s [.i .i64 rm, mp, .l0]) (t : Stay (fun i => i = s) h h') : ShM h' s mp .l0 X [] [] rm ∧ ∀ q, fpS s mp .l0 X [] q → fpS s mp lo X U q := by
 have no : ∀ q, ¬ isOf .l0 q := fun q ⟨_, _, _, _, _, e⟩ => by cases e
 have hx := (S.map.imp (fun e => (⟨e.1, e.2.1, rfl⟩ : mp = V.m0 ∧ X = [] ∧ ([] : List AB) = [])) fun ⟨id, e, m⟩ => (⟨id, e, m.stay t fun e2 => S.sm (by rw [e, e2])⟩ : ∃ id, mp = V.m id ∧ MapC h' id (vX X)))
 have hl : ∀ f ∈ live X [], f ∈ live X U := fun f hf => by
   have hf : f ∈ X.map (fun p : List UInt8 × Fl => p.2) ++ [] := hf
   rw [List.append_nil] at hf
   exact List.mem_append_left _ hf
 refine ⟨⟨o, hx, Buf.nil _ _ _, fun f hf => (S.fil f (hl f hf)).stay t fun q e e2 => (S.fs f (hl f hf) q e).1 e2, S.sm, no _, fun _ _ => no _, fun f hf q e => ⟨(S.fs f (hl f hf) q e).1, (S.fs f (hl f hf) q e).2.1, no _⟩, ?_⟩, ?_⟩
 · have := S.fp
   unfold live at this
   rw [List.pairwise_append] at this
   show (X.map (fun p : List UInt8 × Fl => p.2) ++ []).Pairwise apa
   rw [List.append_nil]; exact this.1
 · rintro q (e | e | e | ⟨f, hf, e⟩)
   · exact .inl e
   · exact .inr (.inl e)
   · exact absurd e (no q)
   · exact .inr (.inr (.inr ⟨f, hl f hf, e⟩))
def tgtR (K : List Fi) (A : List DA) (n m : Int) (N k : Nat) : List Fi := if k = N - hlN n N then crashR K A n m else runR K (A.take (N - k))
theorem scrash_ok (S : ShM h s mp lo X U U rm) (R : Rel (bX X) (U.map absA) rm D) (hU : U.length ≤ 10000) (hf : B.val h.floor ≤ B.val h.next) :
   FnOk Try.prog 28 [.p s 0 0 3, .i .i64 n, .i .i64 m] h fun y h' => y = .tu [] ∧ ∃ C', Sam C' (crashR D.K D.A n m) ∧ AftS h h' s mp lo X U C' [] rm := by
 have hn : U.length = D.A.length := by rw [← R.acts, List.length_map]
 refine fn_rf (α := AB) (n := 6) (nt := 41) (ord := fun len k => len - 1 - k) (c := actG) (xA := xA28) (xB := xB28) (xC := xC28) (xD := xD28) (ca := ca28) (cb := cb28) (cpre := pre28) (rs := []) (elB := 74) (fn := Try.f28) (gB := 55) (gI := 79) (by have h := Try.func28; rw [← Array.getElem?_toList] at h; exact h) rfl rfl rfl rfl (by simp) (by simp) rfl (by kernel_rfl) rfl rfl rfl (by kernel_rfl) (by kernel_rfl) (by kernel_rfl) (by kernel_rfl) (by kernel_rfl) (by kernel_rfl) (fun ao len cap w => callsIn_wide.1 (back_call ao len cap w)) (enters_of Try.func55 (by kernel_rfl) rfl) (enters_of Try.func79 (by kernel_rfl) rfl) back_iter (fun len k h => by omega) (by omega) actG_len (by omega) (by omega) ?_
 have hloo : Ss 6 actG h lo U := Ss.buf S.buf rfl actG_len (by omega)
 simp only [slotsF, Nat.reduceAdd]
 repeat' (first
   | refine St.h ?_
   | simp (disch := first | omega | (simp only [lnv]; omega)) only [wlk, mwk, ↓get_put', ↓reduceIte, seval]
   | (with_reducible (first | apply cd_split | apply gd_split)) <;> (intro hc; (try simp only [hcn] at hc); (try simp only [hc]); (try simp only [hcl] at hc); try omega))
 refine AL.own (by simp) hf fun h1 s1 n1 o3 => ?_
 have hf1 := s1.fl hf
 repeat' (first
   | refine St.h ?_
   | simp (disch := first | omega | (simp only [lnv]; omega)) only [wlk, mwk, ↓get_put', ↓reduceIte, seval]
   | (with_reducible (first | apply cd_split | apply gd_split)) <;> (intro hc; (try simp only [hcn] at hc); (try simp only [hc]); (try simp only [hcl] at hc); try omega))
 refine AL.own (by simp) hf1 fun h2 s2 n2 o5 => ?_
 have hf2 := s2.fl hf1
 have o3 := o3.stay s2 fun h => h
 have S2 := S.stay (s1.trans s2) fun _ _ e => e
 repeat' (first
   | refine St.h ?_
   | simp (disch := first | omega | (simp only [lnv]; omega)) only [wlk, mwk, ↓get_put', ↓reduceIte, seval]
   | (with_reducible (first | apply cd_split | apply gd_split)) <;> (intro hc; (try simp only [hcn] at hc); (try simp only [hc]); (try simp only [hcl] at hc); try omega))
 refine ⟨trivial, ?_⟩
 repeat' (first
   | refine St.h ?_
   | simp (disch := first | omega | (simp only [lnv]; omega)) only [wlk, mwk, ↓get_put', ↓reduceIte, seval, o3.row.l1, S2.own.row.l1, hloo.ln]
   | (with_reducible (first | apply cd_split | apply gd_split)) <;> (intro hc; (try simp only [hcn] at hc); (try simp only [hc]); (try simp only [hcl] at hc); try omega))
 refine CL.pure (held_ok n _) ?_
 repeat' (first
   | refine St.h ?_
   | simp (disch := first | omega | (simp only [lnv]; omega)) only [wlk, mwk, ↓get_put', ↓reduceIte, seval]
   | (with_reducible (first | apply cd_split | apply gd_split)) <;> (intro hc; (try simp only [hcn] at hc); (try simp only [hc]); (try simp only [hcl] at hc); try omega))
 refine AL.own (by simp) hf2 fun h3 s3 n3 o6 => ?_
 repeat' (first
   | refine St.h ?_
   | simp (disch := first | omega | (simp only [lnv]; omega)) only [wlk, mwk, ↓get_put', ↓reduceIte, seval]
   | (with_reducible (first | apply cd_split | apply gd_split)) <;> (intro hc; (try simp only [hcn] at hc); (try simp only [hc]); (try simp only [hcl] at hc); try omega))
 refine ST.own o6 rfl rfl (by omega) (by omega) fun h4 o6 s4 => ?_
 repeat' (first
   | refine St.h ?_
   | simp (disch := first | omega | (simp only [lnv]; omega)) only [wlk, mwk, ↓get_put', ↓reduceIte, seval]
   | (with_reducible (first | apply cd_split | apply gd_split)) <;> (intro hc; (try simp only [hcn] at hc); (try simp only [hc]); (try simp only [hcl] at hc); try omega))
 refine ⟨trivial, ?_⟩
 repeat' (first
   | refine St.h ?_
   | simp (disch := first | omega | (simp only [lnv]; omega)) only [wlk, mwk, ↓get_put', ↓reduceIte, seval]
   | (with_reducible (first | apply cd_split | apply gd_split)) <;> (intro hc; (try simp only [hcn] at hc); (try simp only [hc]); (try simp only [hcl] at hc); try omega))
 refine ⟨trivial, ?_⟩
 have s34 : Stay nowhere h2 h4 := s3.past' s4 fun q hq => by rw [hq]; exact Nat.le_refl _
 have o3 := o3.stay s34 fun h => h
 have o5 := o5.stay s34 fun h => h
 have S4 := S2.stay s34 fun _ _ e => e
 have s14 := (s1.trans s2).trans s34
 have hf4 := s34.fl hf2
 unfold pre28
 repeat' (first
   | refine St.h ?_
   | simp (disch := first | omega | (simp only [lnv]; omega)) only [wlk, mwk, ↓get_put', ↓reduceIte, seval, o3.row.l1, S4.own.row.l1]
   | (with_reducible (first | apply cd_split | apply gd_split)) <;> (intro hc; (try simp only [hcn] at hc); (try simp only [hc]); (try simp only [hcl] at hc); try omega))
 obtain ⟨z, hz⟩ : ∃ z, z = hlN n U.length := ⟨_, rfl⟩
 have hzl : z ≤ U.length := by rw [hz]; exact hlN_le _ _
 have hzZ : heldZ n (U.length : Int) = (z : Int) := by rw [hz]; exact heldZ_N _ _
 have o6 : Ev.Own h4 h2.next [.i .i64 (z : Int)] := by rw [← hzZ]; exact o6
 have x3 := n1
 have x5 := n2
 have x6 := n3
 have ltS : ∀ q, fpS s mp lo X U q → B.val q < B.val h.next := fun q hq => S.lt hq
 have hloo4 : Ss 6 actG h4 lo U := hloo.grow s14
 refine ⟨lo, U, by show get 19 _ = lo; simp (disch := first | omega | (simp only [lnv]; omega)) only [wlk, mwk, ↓get_put', ↓reduceIte, seval], hloo4, by omega, hf4, fun h5 h6 h7 s5 n5 p6 p7 => ?_⟩
 have n6 := p6.next
 have n7 := p7.next
 have n4 : B.val h3.next ≤ B.val h4.next := s4.next
 have s47 : Stay nowhere h4 h7 := (s5.trans p6.stay).trans p7.stay
 let Inv : Nat → H → Prop := fun k g => ∃ X', k ≤ U.length - z ∧ ShM g s mp lo X' (U.take (U.length - k)) U rm ∧ Sam (bX X') (tgtR D.K D.A n m U.length k) ∧ Stay (fpS s mp lo X U) h4 g ∧ B.val h7.next ≤ B.val g.next ∧ ∀ q, fpS s mp lo X' (U.take (U.length - k)) q → fpS s mp lo X U q
 let Fin : H → Prop := fun g => ∃ X', ShM g s mp lo X' (U.take z) U rm ∧ Sam (bX X') (crashR D.K D.A n m) ∧ Stay (fpS s mp lo X U) h4 g ∧ B.val h7.next ≤ B.val g.next ∧ ∀ q, fpS s mp lo X' (U.take z) q → fpS s mp lo X U q
 have fin_of : ∀ k g, Inv k g → k = U.length - z → Fin g := fun k g ⟨X', k1, k2, k3, k4, k5, k6⟩ e => by
   subst e
   have e2 : U.length - (U.length - z) = z := by omega
   rw [e2] at k2 k6
   refine ⟨X', k2, ?_, k4, k5, k6⟩
   unfold tgtR at k3
   rwa [if_pos (by rw [hz])] at k3
 have hns : B.val s < B.val h.next := ltS s (.inl rfl)
 have neq : ∀ {a b : B}, B.val a < B.val b → a ≠ b := fun {a b} hlt e => by rw [e] at hlt; exact absurd hlt (Nat.lt_irrefl _)
 have endF : ∀ (t : F) he hF, get 3 t = .p h.next 0 0 1 → Fin he → Stay (fun i => i = h6.next) he hF → RfEnd Try.prog 41 xD28 [] t h5.next (fun y h' => y = V.tu [] ∧ ∃ C', Sam C' (crashR D.K D.A n m) ∧ AftS h h' s mp lo X U C' [] rm) hF := by
   rintro t he hF f3 ⟨X', k2, k3, k4, k5, k6⟩ sF
   have k2F := k2.stay sF fun q hq e => by have := ltS q (k6 q hq); rw [e] at this; omega
   have hb3 : ¬ fpS s mp lo X U h.next := fun e => absurd (ltS _ e) (Nat.lt_irrefl _)
   have o3F := (o3.stay k4 hb3).stay sF (neq (by omega))
   unfold RfEnd
   repeat' (first
     | refine St.h ?_
     | simp (disch := first | omega | (simp only [lnv]; omega)) only [wlk, mwk, ↓get_put', ↓reduceIte, seval, f3, o3F.row.l1, k2F.own.row.l1]
     | (with_reducible (first | apply cd_split | apply gd_split)) <;> (intro hc; (try simp only [hcn] at hc); (try simp only [hc]); (try simp only [hcl] at hc); try omega))
   refine ST.own k2F.own rfl rfl (by omega) (by omega) fun hG oG sG => ?_
   repeat' (first
     | refine St.h ?_
     | simp (disch := first | omega | (simp only [lnv]; omega)) only [wlk, mwk, ↓get_put', ↓reduceIte, seval]
     | (with_reducible (first | apply cd_split | apply gd_split)) <;> (intro hc; (try simp only [hcn] at hc); (try simp only [hc]); (try simp only [hcl] at hc); try omega))
   refine ⟨sG.mono fun q _ e => by rw [e]; exact neq (by omega), fun h'' s'' => ?_⟩
   obtain ⟨kG, fG⟩ := k2F.kept oG sG
   have kE := kG.stay s'' fun q hq e => by have := ltS q (k6 q (fG q hq)); rw [e] at this; omega
   repeat' (first
     | refine St.h ?_
     | simp (disch := first | omega | (simp only [lnv]; omega)) only [wlk, mwk, ↓get_put', ↓reduceIte, seval]
     | (with_reducible (first | apply cd_split | apply gd_split)) <;> (intro hc; (try simp only [hcn] at hc); (try simp only [hc]); (try simp only [hcl] at hc); try omega))
   refine ⟨trivial, _, k3, mp, .l0, X', [], rfl, rfl, kE, ?_, fun q hq => .inl (k6 q (fG q hq))⟩
   have a1 : Stay (fpS s mp lo X U) h he := (s14.mono fun _ _ e => e.elim).trans k4
   have a2 := stay_past a1 sF fun q e => .inr (by rw [e]; omega)
   have a3 := stay_past a2 sG fun q e => .inl (.inl e)
   exact stay_past a3 s'' fun q e => .inr (by rw [e]; omega)
 refine ⟨Inv, fun x g => x = .exit 0 ∧ Fin g, ?_, ⟨?_, ?_⟩, ?_, ?_⟩
 · refine ⟨X, by omega, ?_, ?_, s47.mono fun _ _ e => e.elim, Nat.le_refl _, ?_⟩
   · rw [Nat.sub_zero, List.take_length]; exact S4.stay s47 fun _ _ e => e
   · unfold tgtR
     rw [Nat.sub_zero, hn, List.take_length]
     have hr : Sam (bX X) (runR D.K D.A) := by rw [← R.run]; exact R.sam
     by_cases e : 0 = D.A.length - hlN n D.A.length
     · rw [if_pos e, crash_ge (by omega)]; exact hr
     · rw [if_neg e]; exact hr
   · rw [Nat.sub_zero, List.take_length]; exact fun q hq => hq
 · rintro k g ⟨X', k1, k2, k3, k4, k5, k6⟩
   exact Ss.buf k2.buf rfl actG_len (by omega)
 · rintro k g hk ⟨X', k1, k2, k3, k4, k5, k6⟩
   have hfg := k4.fl hf4
   have ekk : ((U.length - 1 - k : Nat) : Int) = (U.length : Int) - 1 - (k : Int) := by omega
   repeat' (first
     | refine St.h ?_
     | simp (disch := first | omega | (simp only [lnv]; omega)) only [wlk, mwk, ↓get_put', ↓reduceIte, seval, sqD_n]
     | (with_reducible (first | apply cd_split | apply gd_split)) <;> (intro hc; (try simp only [hcn] at hc); (try simp only [hc]); (try simp only [hcl] at hc); try omega))
   refine AL.own (by simp) hfg fun ga sa na oa => ?_
   have hfa := sa.fl hfg
   repeat' (first
     | refine St.h ?_
     | simp (disch := first | omega | (simp only [lnv]; omega)) only [wlk, mwk, ↓get_put', ↓reduceIte, seval, sqD_n]
     | (with_reducible (first | apply cd_split | apply gd_split)) <;> (intro hc; (try simp only [hcn] at hc); (try simp only [hc]); (try simp only [hcl] at hc); try omega))
   obtain ⟨i, hi⟩ : ∃ i, i = U.length - 1 - k := ⟨_, rfl⟩
   have hiU : i < U.length := by omega
   have hik : U.length - k = i + 1 := by omega
   rw [← hi]
   rw [hik] at k2 k6
   have eu : U.take (i + 1) = U.take i ++ [U.getD i default] := by rw [List.take_succ_eq_append_getElem hiU]; simp [List.getD, hiU]
   have hgo : IsSl (U.getD i default).gv := gv_sl fun f hf => (k2.fil f (by rw [eu, live_snoc]; exact List.mem_append_right _ (List.mem_append_right _ (by rw [hf]; exact List.mem_singleton.2 rfl)))).sl.1
   have ha6 : cells (.a (actG (U.getD i default))) = actG (U.getD i default) := rfl
   refine ST.ownAll oa ha6 rfl (act_one hgo) (by show 6 ≤ 6; omega) (by show 6 < 2 ^ 37; decide) fun gc oc sc => ?_
   repeat' (first
     | refine St.h ?_
     | simp (disch := first | omega | (simp only [lnv]; omega)) only [wlk, mwk, ↓get_put', ↓reduceIte, seval, sqD_n]
     | (with_reducible (first | apply cd_split | apply gd_split)) <;> (intro hc; (try simp only [hcn] at hc); (try simp only [hc]); (try simp only [hcl] at hc); try omega))
   have sac : Stay nowhere g gc := sa.past' sc fun q hq => by rw [hq]; exact Nat.le_refl _
   refine ⟨trivial, sac.mono fun _ _ e => e.elim, fun gb sb => ?_⟩
   have hfb := sb.fl (sac.fl hfg)
   have k5' : B.val h7.next ≤ B.val gc.next := Nat.le_trans k5 sac.next
   have kb := (k2.stay sac fun _ _ e => e).stay sb fun q hq e => by have := ltS q (k6 q hq); rw [e] at this; omega
   have hb3 : ∀ q, B.val h.next ≤ B.val q → ¬ fpS s mp lo X U q := fun q hq e => by have := ltS _ e; omega
   have o3b := ((o3.stay k4 (hb3 _ (Nat.le_refl _))).stay sac fun e => e).stay sb (neq (by omega))
   have o5b := ((o5.stay k4 (hb3 _ (by omega))).stay sac fun e => e).stay sb (neq (by omega))
   have o6b := ((o6.stay k4 (hb3 _ (by omega))).stay sac fun e => e).stay sb (neq (by omega))
   have lg : B.val h7.next ≤ B.val g.next := k5
   have ocb := oc.stay sb fun e => by rw [e] at lg; omega
   have hla : ∀ N : Nx, LN Try.prog g.next 0 0 6 6 gb N = N.go Try.prog (.a (actG (U.getD i default))) gb := fun N => ocb.row.ln (size := 6) (off := 0) (by show 0 + 6 ≤ 6; omega) (by omega) (by omega)
   have st4 : Stay (fpS s mp lo X U) h4 gb := stay_past (stay_past k4 sac fun q e => e.elim) sb fun q e => .inr (by rw [e]; omega)
   have nb : B.val h7.next ≤ B.val gb.next := Nat.le_trans k5' sb.next
   have iZ : ((i : Nat) : Int) ≤ (U.length : Int) := by omega
   have off0 : ∀ q, fpS s mp lo X U q → offP h4.next h5.next h6.next q := fun q hq => by
     have := ltS q hq
     exact ⟨neq (by omega), neq (by omega), neq (by omega)⟩
   by_cases c1 : z < i
   · have d1 : ((z : Int) < (i : Int)) = True := eq_true (by omega)
     have hk3 : Sam (bX X') (runR D.K (D.A.take (i + 1))) := by
       unfold tgtR at k3
       rwa [if_neg (by rw [← hz]; omega), hik] at k3
     repeat' (first
       | refine St.h ?_
       | simp (disch := first | omega | (simp only [lnv]; omega)) only [wlk, mwk, ↓get_put', ↓reduceIte, seval, sqD_n, o6b.row.l1, d1, o3b.row.l1, hla]
       | (with_reducible (first | apply cd_split | apply gd_split)) <;> (intro hc; (try simp only [hcn] at hc); (try simp only [hc]); (try simp only [hcl] at hc); try omega))
     refine CL.mk (crash_step (n := 0) R.chain R.nodK R.ok hiU kb hk3 hfb) ?_
     rintro _ gd ⟨rfl, X2, S2, hC, st2, fp2⟩
     repeat' (first
       | refine St.h ?_
       | simp (disch := first | omega | (simp only [lnv]; omega)) only [wlk, mwk, ↓get_put', ↓reduceIte, seval, sqD_n]
       | (with_reducible (first | apply cd_split | apply gd_split)) <;> (intro hc; (try simp only [hcn] at hc); (try simp only [hc]); (try simp only [hcl] at hc); try omega))
     have st2' : Stay (fpS s mp lo X U) gb gd := st2.mono fun q _ hq => k6 q hq
     refine ⟨st2'.mono fun q _ hq => off0 q hq, fun h' s' => ?_⟩
     have ei : U.length - (k + 1) = i := by omega
     refine ⟨X2, by omega, ?_, ?_, stay_past (st4.trans st2') s' fun q e => .inr (by rw [e]; omega), Nat.le_trans nb (Nat.le_trans st2.next s'.next), ?_⟩
     · rw [ei]; exact S2.stay s' fun q hq e => by have := ltS q (k6 q (fp2 q hq)); rw [e] at this; omega
     · unfold tgtR
       rw [if_neg (by rw [← hz]; omega), ei]
       rw [torn_0] at hC; exact hC
     · rw [ei]; exact fun q hq => k6 q (fp2 q hq)
   · by_cases c2 : i = z
     · have d1 : ((z : Int) < (i : Int)) = False := eq_false (by omega)
       have d2 : ((i : Int) = (z : Int)) = True := eq_true (by omega)
       have hk3 : Sam (bX X') (runR D.K (D.A.take (i + 1))) := by
         unfold tgtR at k3
         rwa [if_neg (by rw [← hz]; omega), hik] at k3
       repeat' (first
         | refine St.h ?_
         | simp (disch := first | omega | (simp only [lnv]; omega)) only [wlk, mwk, ↓get_put', ↓reduceIte, seval, sqD_n, o6b.row.l1, d1, d2, o3b.row.l1, o5b.row.l1, hla]
         | (with_reducible (first | apply cd_split | apply gd_split)) <;> (intro hc; (try simp only [hcn] at hc); (try simp only [hc]); (try simp only [hcl] at hc); try omega))
       refine CL.mk (crash_step (n := m) R.chain R.nodK R.ok hiU kb hk3 hfb) ?_
       rintro _ gd ⟨rfl, X2, S2, hC, st2, fp2⟩
       repeat' (first
         | refine St.h ?_
         | simp (disch := first | omega | (simp only [lnv]; omega)) only [wlk, mwk, ↓get_put', ↓reduceIte, seval, sqD_n]
         | (with_reducible (first | apply cd_split | apply gd_split)) <;> (intro hc; (try simp only [hcn] at hc); (try simp only [hc]); (try simp only [hcl] at hc); try omega))
       have st2' : Stay (fpS s mp lo X U) gb gd := st2.mono fun q _ hq => k6 q hq
       refine ⟨st2'.mono fun q _ hq => off0 q hq, fun h' s' => ?_⟩
       have ei : U.length - (k + 1) = i := by omega
       refine ⟨X2, by omega, ?_, ?_, stay_past (st4.trans st2') s' fun q e => .inr (by rw [e]; omega), Nat.le_trans nb (Nat.le_trans st2.next s'.next), ?_⟩
       · rw [ei]; exact S2.stay s' fun q hq e => by have := ltS q (k6 q (fp2 q hq)); rw [e] at this; omega
       · unfold tgtR
         have hzA : hlN n D.A.length = i := by rw [← hn, ← hz]; exact c2.symm
         rw [if_pos (by rw [← hz]; omega), crash_lt (by omega), hzA]
         exact hC
       · rw [ei]; exact fun q hq => k6 q (fp2 q hq)
     · have d1 : ((z : Int) < (i : Int)) = False := eq_false (by omega)
       have d2 : ((i : Int) = (z : Int)) = False := eq_false (by omega)
       repeat' (first
         | refine St.h ?_
         | simp (disch := first | omega | (simp only [lnv]; omega)) only [wlk, mwk, ↓get_put', ↓reduceIte, seval, sqD_n, o6b.row.l1, d1, d2, o3b.row.l1, hla]
         | (with_reducible (first | apply cd_split | apply gd_split)) <;> (intro hc; (try simp only [hcn] at hc); (try simp only [hc]); (try simp only [hcl] at hc); try omega))
       refine ⟨Stay.refl _ _, fun h' s' => ⟨trivial, ?_⟩⟩
       have ek : k = U.length - z := by omega
       refine fin_of k h' ⟨X', k1, ?_, k3, stay_past st4 s' fun q e => .inr (by rw [e]; omega), Nat.le_trans nb s'.next, ?_⟩ ek
       · rw [hik]; exact kb.stay s' fun q hq e => by have := ltS q (k6 q hq); rw [e] at this; omega
       · rw [hik]; exact k6
 · rintro he hF hI sF
   have : U.length = U.length - z := by obtain ⟨_, k1, _⟩ := hI; omega
   exact endF _ he hF (by simp (disch := first | omega | (simp only [lnv]; omega)) only [wlk, mwk, ↓get_put', ↓reduceIte, seval]) (fin_of _ _ hI this) sF
 · rintro x he hF ⟨rfl, hI⟩ sF
   exact ⟨rfl, endF _ he hF (by simp (disch := first | omega | (simp only [lnv]; omega)) only [wlk, mwk, ↓get_put', ↓reduceIte, seval]) hI sF⟩
end
end Go.Proofs.Ytjlhfoadabkahaa

set_option linter.all false
namespace Go.Ev
open Go
section
variable {P : Program} {nt : Nat} {t : F} {h : H} {K : X → F → H → Prop}
theorem CodeN.call {id f d : Nat} {ops : Array Oper} {pre rest : List Oper} {oC : Oper} {args : Array Operand} {tys : Array TypeId} (p1 : ops.toList = pre ++ oC :: rest) (p2 : oC.op = .call ⟨.value (.func f), args, tys⟩) (p3 : oC.dst = some d) (p4 : oC.guard = none) (hd : fits nt d = true)
   (a : WO P (compOpsWith (fun _ => true) P nt ops.toList (compOp P) 0 pre) t h fun t1 h1 => FnN P f ((args.toList.map compO).map fun o => oV o t1) h1 fun y h2 => WO P (compOpsWith (fun _ => true) P nt ops.toList (compOp P) (pre.length + 1) rest) (put d y t1) h2 fun t3 h3 => K .normal t3 h3) : CodeN P nt (.region id ops false) t h K := by
 intro ρ a0 w w0 Q D A R hQ
 obtain ⟨d1, d2⟩ := fits_ok hd
 refine wp_region ?_
 have hsz : List.range ops.size = List.range' 0 (pre.length + (oC :: rest).length) := by
   have h1 : ops.size = pre.length + (oC :: rest).length := by have := congrArg List.length p1; simpa using this
   rw [List.range_eq_range', h1]
 rw [hsz]
 obtain ⟨t1, h1, hpre, hF⟩ := a
 obtain ⟨k1, k2, k3⟩ := opsRel_pre (fun _ => true) (oC :: rest) pre 0 (by rw [p1]; rfl) _ _ _ _ hpre
 refine k3 ρ a0 w w0 _ A R fun ρ1 a1 w1 l1 A1 R1 => ?_
 rw [Nat.zero_add]
 have hargs : LRel ρ1 ((args.toList.map compO).map fun o => oV o t1) (args.toList.map a1.eval) := by
   rw [List.map_map]; exact ORel.list (os := args.toList) fun x _ => opnd_rel A1 x
 obtain ⟨c1, c2⟩ := hF ρ1 w1 w0 _ hargs (D.up k1.1 l1) R1
 have hn : ops[pre.length]? = some oC := by
   have : ops.toList[pre.length]? = some oC := by rw [p1]; simp
   simpa using this
 have hl' : ops.toList.drop (pre.length + 1) = rest := by rw [p1]; simp
 rw [List.length_cons, List.range'_succ, wpOps_cons]
 unfold wpOp
 simp only [hn, wanted_none p4, if_true]
 refine .inl ?_
 have hx : (execOp a1.eval oC).run P w1 = .ok (.enter f (args.toList.map a1.eval).toArray) w1 := by
   unfold execOp
   rw [p2]
   simp only [Sem.run_bind, run_resolve_value P w1 a1.eval f args tys oC.type rfl, Result.andThen_ok, invoke]
   rw [← c1]
   rw [show ((#[] ++ args.map a1.eval) ++ #[] : Array Value) = (args.toList.map a1.eval).toArray by apply Array.ext'; simp]
 unfold Oper.wp
 rw [hx]
 refine Calls.mono c2 fun e w' he => ?_
 obtain ⟨x, y, h2, rfl, ⟨t3, h3, o1, o2⟩, m1, m2, ρ2, q1, q2, q3⟩ := he
 have A2 := arel_put (A1.up q1.1) q2 d1 d2
 obtain ⟨j1, j2, j3⟩ := opsRel_ok (fun _ => true) rest (pre.length + 1) hl' _ _ _ _ o1
 rw [← p3] at A2
 refine j3 ρ2 _ _ w0 _ A2 q3 fun ρ3 a3 w3 l3 A3 R3 => ?_
 have f1 : h1.floor = h.floor := k1.1
 have f2 : h2.floor = h1.floor := m1.1
 exact hQ .normal t3 h3 ρ3 a3 w3 o2 (KeepF.trans (KeepF.trans k1 k2 m1) (Nat.le_trans k2 m2) j1) (Nat.le_trans (Nat.le_trans k2 m2) j2) ((l1.trans (by rw [← f1]; exact q1)).trans (by rw [← f1, ← f2]; exact l3)) A3 R3
theorem FnN.mono {f : FuncId} {vs : List V} {K K' : V → H → Prop} (a : FnN P f vs h K) (k : ∀ y g, K y g → K' y g) : FnN P f vs h K' := fun ρ w w0 args hl D R => by
 obtain ⟨b1, b2⟩ := a ρ w w0 args hl D R
 exact ⟨b1, b2.mono fun e w' ⟨x, v, g', e1, k1, k2⟩ => ⟨x, v, g', e1, k _ _ k1, k2⟩⟩
theorem OkS.ca {c : CaP} (a : WO P c.pre t h fun t1 h1 => FnN P c.f (c.args.map fun o => oV o t1) h1 fun y h2 => WO P c.rest (put c.d y t1) h2 fun t3 h3 => K .normal t3 h3) : OkS P nt (.call c) t h K :=
 OkS.call fun ops pre oC rest args tys e1 e2 e3 e4 e5 e6 e7 e8 id => CodeN.call e1 e2 e3 e4 e5 (by rw [← e6, ← e7, ← e8]; exact a)
theorem OkS.cn {c : CaP} (a : WO P c.pre t h fun t1 h1 => ∃ vs K0, FnN P c.f vs h1 K0 ∧ (c.args.map fun o => oV o t1) = vs ∧ ∀ y h2, K0 y h2 → WO P c.rest (put c.d y t1) h2 fun t3 h3 => K .normal t3 h3) : OkS P nt (.call c) t h K := by
 obtain ⟨t1, h1, o1, vs, K0, o2, o3, o4⟩ := a
 subst o3
 exact OkS.ca ⟨t1, h1, o1, FnN.mono o2 o4⟩
theorem OkS.lp {s : Sh} (Inv : Nat → F → H → Prop) (m : Nat) (i : Inv m t h) (round : ∀ I : Nat → F → H → Prop, IsI I Inv → ∀ m t h, Inv m t h → OkS P nt s t h (LpK I m K)) : OkS P nt (.loop s) t h K :=
 OkS.loop Inv m i fun m t h hi => (round Inv rfl m t h hi).mono fun x t h => by cases x <;> exact fun h => h
theorem OkS.cd {o : O} {s1 s2 : Sh} (a : CD (oV o t) (OkS P nt s1 t h K) (OkS P nt s2 t h K)) : OkS P nt (.cond o s1 s2) t h K := by
 obtain ⟨q, hq, a1, a2⟩ := a
 exact OkS.cond hq a1 a2
instance {x : CC} : St (OkS P nt (.cc x) t h K) (Ok P nt x t h K) := ⟨OkS.cc⟩
instance {a b : Sh} : St (OkS P nt (.seq a b) t h K) (OkS P nt a t h (SqS P nt b K)) := ⟨OkS.seq⟩
instance {id : Nat} {a : Sh} : St (OkS P nt (.block id a) t h K) (OkS P nt a t h (Out id K)) := ⟨OkS.block⟩
instance {o : O} {s1 s2 : Sh} : St (OkS P nt (.cond o s1 s2) t h K) (CD (oV o t) (OkS P nt s1 t h K) (OkS P nt s2 t h K)) := ⟨OkS.cd⟩
theorem sqs_m {s : Sh} : SqS P nt s K .normal t h = OkS P nt s t h K := rfl
theorem sqs_r {s : Sh} : SqS P nt s K .ret t h = K .ret t h := rfl
theorem sqs_e {s : Sh} {j : Nat} : SqS P nt s K (.exit j) t h = K (.exit j) t h := rfl
theorem HRel.low {ρ ρ' : Emb} {h' : H} {w w' w0 : World} (R : HRel ρ h w w0) (hf : h'.floor = h.next) (hn : B.val h.next ≤ B.val h'.next) (x : Ext h.next ρ ρ') (R' : HRel ρ' h' w' w) : HRel ρ' (unFloor h h') w' w0 := by
 rw [unFloor_mk]
 refine ⟨R'.loc, R'.ids, R'.sep, Nat.le_trans R.flo hn, fun b hb => (R'.old b (Nat.lt_of_lt_of_le hb R.siz)).trans (R.old b hb), fun id g L hL hfl => ?_, R'.tp.trans R.tp, R'.os.trans R.os, R'.out.trans R.out, Nat.le_trans R.siz R'.siz, R'.mp, R'.ito⟩
 rcases x.2 _ _ _ hL with h1 | h1
 · exact R.up _ _ _ h1 hfl
 · exact Nat.le_trans R.siz (R'.up _ _ _ hL (by rw [hf]; exact h1))
theorem FnN.low {f : FuncId} {vs : List V} {K : V → H → Prop} (hf : B.val h.floor ≤ B.val h.next) (a : FnN P f vs (reFloor h) K) : FnN P f vs h fun y g => ∃ g', K y g' ∧ g'.floor = h.next ∧ B.val h.next ≤ B.val g'.next ∧ Stay nowhere h (unFloor h g') ∧ g = unFloor h g' := by
 intro ρ w w0 args hl D R
 obtain ⟨b1, b2⟩ := a ρ w w args hl (Dn.re R) R.refloor
 refine ⟨b1, b2.mono fun e w' ⟨x, v, g', e1, k, kf, kn, ρ', q1, q2, q3⟩ => ?_⟩
 rw [reFloor_next] at kn
 have k1 : g'.floor = h.next := by rw [kf.1, reFloor_floor]
 have k2 : ∀ id, B.val id < B.val h.next → g'.heap.get id = h.heap.get id := fun id hid => by
   have := kf.2 (by rw [reFloor_floor, reFloor_next]; exact Nat.le_refl _) id (by rw [reFloor_floor]; exact hid)
   rwa [reFloor_heap] at this
 have q1' : Ext h.next ρ ρ' := by rw [reFloor_floor] at q1; exact q1
 refine ⟨x, v, unFloor h g', e1, ⟨g', k, k1, kn, ?_, rfl⟩, ?_, ?_, ρ', ⟨q1'.1, fun id g L hL => (q1'.2 id g L hL).imp_right fun h1 => Nat.le_trans hf h1⟩, q2, R.low k1 kn q1' q3⟩
 · rw [unFloor_mk]; exact ⟨rfl, kn, fun id hid _ => k2 id hid⟩
 · rw [unFloor_mk]; exact ⟨rfl, fun hf id hid => k2 id (Nat.lt_of_lt_of_le hid hf)⟩
 · rw [unFloor_mk]; exact kn
end
end Go.Ev
