/- Texts of ours, without what this claim does not use: HpM JrEnt Base NEnt1 Wh NHpA JrEntR NEntR HpQ NHpB HpL NHpC NHpD JrHp NHp1 NHpG Knravelinlaw10 NHpP NEntB JrHp2 NHp2 NHp4 ArgE HeapOrders. No condition. -/
import Derived.Test.YtcaoeoeeaaeieaaPkHeapOrders3
import Derived.Test.YtcaoeoeeaaeieaaProg
import Derived.KernelRfl
import Derived.Test.YtcaoeoeeaaeieaaRows
import Derived.WalkKit
import Derived.ProofKit
import Derived.OpenShut
import Derived.ChangeMaps5
set_option linter.all false
namespace Go.Proofs.Ytcaoeoeeaaeieaa
open Go Go.Ev
/-- is one of that key and number there -/
def hasE (L : List Ent) (x : Ent) : Bool := L.any fun a => decide (a.key = x.key ∧ a.seq = x.seq)
def insE (x : Ent) : List Ent → List Ent
  | [] => [x]
  | a :: L => if lessE x a then x :: a :: L else a :: insE x L
def putE (L : List Ent) (x : Ent) : List Ent × Bool := if isE x && !hasE L x then (insE x L, true) else (L, false)
theorem putE_bad {L : List Ent} {x : Ent} (h : isE x = false) : putE L x = (L, false) := by unfold putE; rw [h]; rfl
theorem putE_has {L : List Ent} {x : Ent} (h : hasE L x = true) : putE L x = (L, false) := by unfold putE; rw [h, Bool.not_true, Bool.and_false]; rfl
theorem putE_ok {L : List Ent} {x : Ent} (h : isE x = true) (h2 : hasE L x = false) : putE L x = (insE x L, true) := by unfold putE; rw [h, h2]; rfl
theorem hasE_mem {L : List Ent} {x : Ent} : hasE L x = true ↔ ∃ a ∈ L, a.key = x.key ∧ a.seq = x.seq := by
  unfold hasE; rw [List.any_eq_true]
  exact ⟨fun ⟨a, h1, h2⟩ => ⟨a, h1, of_decide_eq_true h2⟩, fun ⟨a, h1, h2⟩ => ⟨a, h1, decide_eq_true h2⟩⟩
theorem insE_len (x : Ent) : ∀ L : List Ent, (insE x L).length = L.length + 1
  | [] => rfl
  | a :: L => by unfold insE; split <;> simp [insE_len x L]
theorem insE_mem {x a : Ent} : ∀ {L : List Ent}, a ∈ insE x L ↔ a = x ∨ a ∈ L
  | [] => by simp [insE]
  | b :: L => by
    unfold insE
    split
    · simp
    · rw [List.mem_cons, insE_mem (L := L), List.mem_cons]
      constructor
      · rintro (h | h | h)
        · exact .inr (.inl h)
        · exact .inl h
        · exact .inr (.inr h)
      · rintro (h | h | h)
        · exact .inr (.inl h)
        · exact .inl h
        · exact .inr (.inr h)
theorem insE_none {x : Ent} : ∀ {A : List Ent}, (∀ a ∈ A, lessE x a = false) → ∀ C, insE x (A ++ C) = A ++ insE x C
  | [], _, C => rfl
  | a :: A, h, C => by
    have h1 := h a (by simp)
    show (if lessE x a then _ else a :: insE x (A ++ C)) = _
    rw [h1, insE_none (fun b hb => h b (List.mem_cons_of_mem _ hb)) C]; rfl
theorem lessE_tot {a b : Ent} (h : ¬ (a.key = b.key ∧ a.seq = b.seq)) : lessE a b = true ∨ lessE b a = true := by
  unfold lessE
  by_cases hk : a.key = b.key
  · rw [if_pos hk, if_pos hk.symm, decide_eq_true_eq, decide_eq_true_eq]
    have : a.seq ≠ b.seq := fun e => h ⟨hk, e⟩
    omega
  · rw [if_neg hk, if_neg (fun e => hk e.symm)]
    exact bl_total hk
/-- in order: each is ahead of all behind it -/
theorem sorted_pw {L : List Ent} : sortedE L = true ↔ L.Pairwise fun a b => lessE a b = true := by
  constructor
  · intro h
    rw [List.pairwise_iff_getElem]
    intro i j hi hj hij
    have := sorted_lt h hij hj
    rwa [List.getD_eq_getElem?_getD, List.getD_eq_getElem?_getD, List.getElem?_eq_getElem hi, List.getElem?_eq_getElem hj] at this
  · intro h
    rw [List.pairwise_iff_getElem] at h
    unfold sortedE srtU
    rw [List.all_eq_true]
    intro i hi
    rw [List.mem_range] at hi
    have := h i (i + 1) (by omega) (by omega) (by omega)
    rwa [List.getD_eq_getElem?_getD, List.getD_eq_getElem?_getD, List.getElem?_eq_getElem (by omega : i < L.length), List.getElem?_eq_getElem (by omega : i + 1 < L.length)]
theorem insE_pw {x : Ent} : ∀ {L : List Ent}, L.Pairwise (fun a b => lessE a b = true) → hasE L x = false → (insE x L).Pairwise fun a b => lessE a b = true
  | [], _, _ => by simp [insE]
  | a :: L, h, hx => by
    rw [List.pairwise_cons] at h
    unfold insE
    cases ha : lessE x a with
    | true =>
      rw [if_pos rfl, List.pairwise_cons]
      refine ⟨fun b hb => ?_, List.pairwise_cons.2 h⟩
      rcases List.mem_cons.1 hb with e | e
      · rw [e]; exact ha
      · exact lessE_trans ha (h.1 b e)
    | false =>
      rw [if_neg (by simp), List.pairwise_cons]
      have hna : ¬ (x.key = a.key ∧ x.seq = a.seq) := fun e => by
        have : hasE (a :: L) x = true := hasE_mem.2 ⟨a, by simp, e.1.symm, e.2.symm⟩
        rw [this] at hx; cases hx
      have hax : lessE a x = true := (lessE_tot hna).resolve_left (by rw [ha]; simp)
      have hLx : hasE L x = false := by
        cases hh : hasE L x with
        | false => rfl
        | true =>
          obtain ⟨b, hb, e⟩ := hasE_mem.1 hh
          have : hasE (a :: L) x = true := hasE_mem.2 ⟨b, List.mem_cons_of_mem _ hb, e⟩
          rw [this] at hx; cases hx
      refine ⟨fun b hb => ?_, insE_pw h.2 hLx⟩
      rcases insE_mem.1 hb with e | e
      · rw [e]; exact hax
      · exact h.1 b e
theorem insE_sorted {x : Ent} {L : List Ent} (h : sortedE L = true) (hx : hasE L x = false) : sortedE (insE x L) = true := sorted_pw.2 (insE_pw (sorted_pw.1 h) hx)
theorem putE_sorted {x : Ent} {L : List Ent} (h : sortedE L = true) : sortedE (putE L x).1 = true := by
  unfold putE
  split
  · rename_i hc
    rw [Bool.and_eq_true, Bool.not_eq_true'] at hc
    exact insE_sorted h hc.2
  · exact h
theorem insE_all {p : Ent → Bool} {x : Ent} {L : List Ent} (hL : L.all p = true) (hx : p x = true) : (insE x L).all p = true := by
  rw [List.all_eq_true] at hL ⊢
  intro a ha
  rcases insE_mem.1 ha with e | e
  · rw [e]; exact hx
  · exact hL a e
theorem putE_len (x : Ent) (L : List Ent) : (putE L x).1.length ≤ L.length + 1 := by
  unfold putE
  split
  · exact Nat.le_of_eq (insE_len x L)
  · exact Nat.le_succ _
/-- rows in order with the same entries are the same -/
theorem pw_ext : ∀ {A C : List Ent}, A.Pairwise (fun a b => lessE a b = true) → C.Pairwise (fun a b => lessE a b = true) → (∀ a, a ∈ A ↔ a ∈ C) → A = C
  | [], [], _, _, _ => rfl
  | [], c :: C, _, _, h => by have := (h c).2 (by simp); cases this
  | a :: A, [], _, _, h => by have := (h a).1 (by simp); cases this
  | a :: A, c :: C, h1, h2, h => by
    rw [List.pairwise_cons] at h1 h2
    have irr : ∀ x : Ent, ¬ lessE x x = true := fun x hx => by have := lessE_asym hx; rw [hx] at this; cases this
    have e : a = c := by
      rcases List.mem_cons.1 ((h a).1 (by simp)) with e | e
      · exact e
      · rcases List.mem_cons.1 ((h c).2 (by simp)) with e2 | e2
        · exact e2.symm
        · have := lessE_asym (h1.1 c e2); rw [h2.1 a e] at this; cases this
    subst e
    congr 1
    refine pw_ext h1.2 h2.2 fun x => ?_
    constructor
    · intro hx
      rcases List.mem_cons.1 ((h x).1 (List.mem_cons_of_mem _ hx)) with e | e
      · rw [e] at hx; exact absurd (h1.1 a hx) (irr a)
      · exact e
    · intro hx
      rcases List.mem_cons.1 ((h x).2 (List.mem_cons_of_mem _ hx)) with e | e
      · rw [e] at hx; exact absurd (h2.1 a hx) (irr a)
      · exact e
theorem sorted_ext {A C : List Ent} (h1 : sortedE A = true) (h2 : sortedE C = true) (h : ∀ a, a ∈ A ↔ a ∈ C) : A = C := pw_ext (sorted_pw.1 h1) (sorted_pw.1 h2) h
/-- how many bytes -/
def bytesN (L : List Ent) : Nat := (L.map fun e => e.key.length + e.val.length).sum
theorem bytesN_cons (a : Ent) (L : List Ent) : bytesN (a :: L) = a.key.length + a.val.length + bytesN L := by unfold bytesN; simp
theorem bytesN_ins (x : Ent) : ∀ L : List Ent, bytesN (insE x L) = x.key.length + x.val.length + bytesN L
  | [] => by simp [insE, bytesN]
  | a :: L => by
    unfold insE
    split
    · rw [bytesN_cons]
    · rw [bytesN_cons, bytesN_ins x L, bytesN_cons]; omega
theorem bytesN_le {L : List Ent} (h : L.all isE = true) : bytesN L ≤ 37 * L.length := by
  induction L with
  | nil => simp [bytesN]
  | cons a L ih =>
    rw [List.all_cons, Bool.and_eq_true] at h
    have := ih h.2
    obtain ⟨_, h1, h2, h3, _⟩ := isE_iff.1 h.1
    rw [bytesN_cons, List.length_cons]; omega
end Go.Proofs.Ytcaoeoeeaaeieaa

set_option maxRecDepth 1000000
set_option linter.all false
namespace Go.Proofs.Ytcaoeoeeaaeieaa
open Go Go.Ev
noncomputable abbrev s23_0 : CC := (CC.seq (CC.region [(wB 3 (doFieldAddr 1 (tm 1))), (wB 4 (doLoad (tm 3))), (wB 5 (bin2 fGeq (tm 4) (oN 1))), (wB 6 (doMove (tm 5))), (wG 6 true 7 (doFieldAddr 1 (tm 1))), (wG 6 true 8 (doLoad (tm 7))), (wG 6 true 9 (bin2 fLeq (tm 8) (oN 1000000))), (wB 10 (doPick (tm 6) (tm 9) (O.c (V.b Bool.false)))), (wB 11 (doMove (tm 10))), (wG 11 true 12 (doFieldAddr 0 (tm 1))), (wG 11 true 13 (doLoad (tm 12))), (wG 11 true 14 (doFieldAddr 2 (tm 1))), (wG 11 true 15 (doLoad (tm 14))), (wG 11 true 16 (doFieldAddr 3 (tm 1))), (wG 11 true 17 (doLoad (tm 16))), (wG 11 true 18 (doBuild [(V.s 0 0), (V.b Bool.false), (V.s 0 0)] [(Pt.mk 0 1 (tm 13)), (Pt.mk 1 1 (tm 15)), (Pt.mk 2 1 (tm 17))])), (wG 11 true 19 (doCall 30 [(tm 18)])), (wB 20 (doPick (tm 11) (tm 19) (O.c (V.b Bool.false)))), (wB 2 (doMove (tm 20)))]) CC.ret)
noncomputable abbrev b23 : CC := (CC.seq (CC.region [(wB 1 (doBox 29 (tm 0))), (wB 2 (doMove (O.c (V.b Bool.false))))]) s23_0)
theorem c23 : compFn Try.prog 23 = ⟨21, b23, [(Rs.tmp (slOf 2))]⟩ := by kernel_rfl
noncomputable abbrev s25_0 : CC := (CC.seq (CC.region [(wB 10 (doFieldAddr 0 (tm 2))), (wB 11 (doLoad (tm 10))), (wB 12 (doFieldAddr 0 (tm 3))), (wB 13 (doLoad (tm 12))), (wB 14 (doSCmp ltS (tm 11) (tm 13))), (wB 4 (doMove (tm 14)))]) CC.ret)
noncomputable abbrev s25_1 : CC := (CC.cond (tm 9) s25_0 CC.skip)
noncomputable abbrev s25_2 : CC := (CC.seq (CC.region [(wB 5 (doFieldAddr 0 (tm 2))), (wB 6 (doLoad (tm 5))), (wB 7 (doFieldAddr 0 (tm 3))), (wB 8 (doLoad (tm 7))), (wB 9 (doSCmp (fun a b c d => !eqS a b c d) (tm 6) (tm 8)))]) s25_1)
noncomputable abbrev s25_3 : CC := (CC.seq (CC.region [(wB 15 (doFieldAddr 1 (tm 2))), (wB 16 (doLoad (tm 15))), (wB 17 (doFieldAddr 1 (tm 3))), (wB 18 (doLoad (tm 17))), (wB 19 (bin2 fGtr (tm 16) (tm 18))), (wB 4 (doMove (tm 19)))]) CC.ret)
noncomputable abbrev s25_4 : CC := (CC.seq s25_2 s25_3)
noncomputable abbrev b25 : CC := (CC.seq (CC.region [(wB 2 (doBox 29 (tm 0))), (wB 3 (doBox 29 (tm 1))), (wB 4 (doMove (O.c (V.b Bool.false))))]) s25_4)
theorem c25 : compFn Try.prog 25 = ⟨20, b25, [(Rs.tmp (slOf 4))]⟩ := by kernel_rfl
noncomputable abbrev s30_0 : CC := (CC.seq (CC.region [(wB 2 (doMove (O.c (V.b Bool.false))))]) CC.ret)
noncomputable abbrev s30_1 : CC := (CC.cond (tm 12) s30_0 CC.skip)
noncomputable abbrev s30_2 : CC := (CC.seq (CC.region [(wB 3 (doFieldAddr 0 (tm 1))), (wB 4 (doLoad (tm 3))), (wB 5 (doLenS (tm 4))), (wB 6 (bin2 fLss (tm 5) (oN 1))), (wB 7 (doMove (tm 6))), (wG 7 false 8 (doFieldAddr 0 (tm 1))), (wG 7 false 9 (doLoad (tm 8))), (wG 7 false 10 (doLenS (tm 9))), (wG 7 false 11 (bin2 fGtr (tm 10) (oN 13))), (wB 12 (doPick (tm 7) (O.c (V.b Bool.true)) (tm 11)))]) s30_1)
noncomputable abbrev s30_3 : CC := (CC.seq (CC.region [(wB 15 (doFieldAddr 2 (tm 1))), (wB 16 (doLoad (tm 15))), (wB 17 (doSCmp eqS (tm 16) (O.c (V.s 0 0)))), (wB 2 (doMove (tm 17)))]) CC.ret)
noncomputable abbrev s30_4 : CC := (CC.cond (tm 14) s30_3 CC.skip)
noncomputable abbrev s30_5 : CC := (CC.seq (CC.region [(wB 13 (doFieldAddr 1 (tm 1))), (wB 14 (doLoad (tm 13)))]) s30_4)
noncomputable abbrev s30_6 : CC := (CC.seq (CC.region [(wB 18 (doFieldAddr 2 (tm 1))), (wB 19 (doLoad (tm 18))), (wB 20 (doLenS (tm 19))), (wB 21 (bin2 fLeq (tm 20) (oN 24))), (wB 2 (doMove (tm 21)))]) CC.ret)
noncomputable abbrev s30_7 : CC := (CC.seq s30_5 s30_6)
noncomputable abbrev s30_8 : CC := (CC.seq s30_2 s30_7)
noncomputable abbrev b30 : CC := (CC.seq (CC.region [(wB 1 (doBox 60 (tm 0))), (wB 2 (doMove (O.c (V.b Bool.false))))]) s30_8)
theorem c30 : compFn Try.prog 30 = ⟨22, b30, [(Rs.tmp (slOf 2))]⟩ := by kernel_rfl
noncomputable abbrev s22_0 : CC := (CC.seq (CC.region [(wB 5 (doFieldAddr 0 (tm 2))), (wB 6 (doLoad (tm 5))), (wB 7 (doFieldAddr 0 (tm 3))), (wB 8 (doLoad (tm 7))), (wB 9 (doSCmp ltS (tm 6) (tm 8))), (wB 10 (doMove (tm 9))), (wG 10 false 11 (doFieldAddr 0 (tm 2))), (wG 10 false 12 (doLoad (tm 11))), (wG 10 false 13 (doFieldAddr 0 (tm 3))), (wG 10 false 14 (doLoad (tm 13))), (wG 10 false 15 (doSCmp eqS (tm 12) (tm 14))), (wG 10 false 16 (doMove (tm 15))), (wG 16 true 17 (doFieldAddr 1 (tm 2))), (wG 16 true 18 (doLoad (tm 17))), (wG 16 true 19 (doFieldAddr 1 (tm 3))), (wG 16 true 20 (doLoad (tm 19))), (wG 16 true 21 (bin2 fGtr (tm 18) (tm 20))), (wG 10 false 22 (doPick (tm 16) (tm 21) (O.c (V.b Bool.false)))), (wB 23 (doPick (tm 10) (O.c (V.b Bool.true)) (tm 22))), (wB 4 (doMove (tm 23)))]) CC.ret)
noncomputable abbrev b22 : CC := (CC.seq (CC.region [(wB 2 (doBox 29 (tm 0))), (wB 3 (doBox 29 (tm 1))), (wB 4 (doMove (O.c (V.b Bool.false))))]) s22_0)
theorem c22 : compFn Try.prog 22 = ⟨24, b22, [(Rs.tmp (slOf 4))]⟩ := by kernel_rfl
end Go.Proofs.Ytcaoeoeeaaeieaa

namespace Go.Proofs.Ytcaoeoeeaaeieaa
open Go Go.Ev
theorem hmix : Try.prog.follows .mixedOrders = true := by kernel_rfl
open Go.Ev in
instance {nt : Nat} {t : F} {h : H} {K : X → F → H → Prop} {l : List CO} : St (Ok Try.prog nt (.draws l) t h K) (DO Try.prog l t h (K .normal)) := ⟨Ok.dw hmix⟩
end Go.Proofs.Ytcaoeoeeaaeieaa

set_option maxRecDepth 100000
set_option maxHeartbeats 8000000
set_option linter.all false
namespace Go.Proofs.Ytcaoeoeeaaeieaa
open Go Go.Ev
theorem isWrite_ok {h : H} {k v : List UInt8} {d : Bool} (hf : B.val h.floor ≤ B.val h.next) : FnOk Try.prog 30 [.a [sv k, .b d, sv v]] h fun y h' => y = .b (isW k d v) ∧ Stay nowhere h h' := by
  refine fn_go c30 (by intro hb; cases hb) (by simp) (by simp) fun Q hQ => ?_
  simp only [slotsF, Nat.reduceAdd]
  repeat' (first
    | refine St.h ?_
    | simp (disch := first | omega | (simp only [lnv]; omega)) only [wlk, ↓get_put', ↓reduceIte, seval]
    | (with_reducible (first | apply cd_split | apply gd_split)) <;> (intro hc; (try simp only [hcn] at hc); (try simp only [hc]); (try simp only [hcl] at hc); try omega))
  refine AL.own (by simp) hf fun h1 s1 n1 o1 => ?_
  repeat' (first
    | refine St.h ?_
    | simp (disch := first | omega | (simp only [lnv]; omega)) only [wlk, ↓get_put', ↓reduceIte, seval, o1.row.l1]
    | (with_reducible (first | apply cd_split | apply gd_split)) <;> (intro hc; (try simp only [hcn] at hc); (try simp only [hc]); (try simp only [hcl] at hc); try omega))
  all_goals (subst hQ; refine ⟨?_, s1⟩; congr 1; symm; first | exact isW_lo (by assumption) | exact isW_hi (by assumption) | exact isW_t (by assumption) (by assumption) (by assumption) | exact isW_f (by assumption) (by assumption) (by assumption))
theorem is_ok {h : H} {e : Ent} (hf : B.val h.floor ≤ B.val h.next) : FnOk Try.prog 23 [.a [sv e.key, .i .i64 e.seq, .b e.del, sv e.val]] h fun y h' => y = .b (isE e) ∧ Stay nowhere h h' := by
  refine fn_go c23 (by intro hb; cases hb) (by simp) (by simp) fun Q hQ => ?_
  simp only [slotsF, Nat.reduceAdd]
  repeat' (first
    | refine St.h ?_
    | simp (disch := first | omega | (simp only [lnv]; omega)) only [wlk, ↓get_put', ↓reduceIte, seval]
    | (with_reducible (first | apply cd_split | apply gd_split)) <;> (intro hc; (try simp only [hcn] at hc); (try simp only [hc]); (try simp only [hcl] at hc); try omega))
  refine AL.own (by simp) hf fun h1 s1 n1 o1 => ?_
  repeat' (first
    | refine St.h ?_
    | simp (disch := first | omega | (simp only [lnv]; omega)) only [wlk, ↓get_put', ↓reduceIte, seval, o1.row.l1]
    | (with_reducible (first | apply cd_split | apply gd_split)) <;> (intro hc; (try simp only [hcn] at hc); (try simp only [hc]); (try simp only [hcl] at hc); try omega))
  · refine CL.stay (isWrite_ok (s1.fl hf)) fun h2 s2 => ?_
    repeat' (first
      | refine St.h ?_
      | simp (disch := first | omega | (simp only [lnv]; omega)) only [wlk, ↓get_put', ↓reduceIte, seval, o1.row.l1]
      | (with_reducible (first | apply cd_split | apply gd_split)) <;> (intro hc; (try simp only [hcn] at hc); (try simp only [hc]); (try simp only [hcl] at hc); try omega))
    subst hQ
    exact ⟨by rw [isE_in (by assumption) (by assumption)], s1.trans s2⟩
  · subst hQ
    exact ⟨by rw [isE_hi (by assumption)], s1⟩
  · subst hQ
    exact ⟨by rw [isE_lo (by assumption)], s1⟩
theorem less_ok {h : H} {a b : Ent} (hf : B.val h.floor ≤ B.val h.next) : FnOk Try.prog 25 [.a [sv a.key, .i .i64 a.seq, .b a.del, sv a.val], .a [sv b.key, .i .i64 b.seq, .b b.del, sv b.val]] h fun y h' => y = .b (lessE a b) ∧ Stay nowhere h h' := by
  refine fn_go c25 (by intro hb; cases hb) (by simp) (by simp) fun Q hQ => ?_
  simp only [slotsF, Nat.reduceAdd]
  repeat' (first
    | refine St.h ?_
    | simp (disch := first | omega | (simp only [lnv]; omega)) only [wlk, ↓get_put', ↓reduceIte, seval]
    | (with_reducible (first | apply cd_split | apply gd_split)) <;> (intro hc; (try simp only [hcn] at hc); (try simp only [hc]); (try simp only [hcl] at hc); try omega))
  refine AL.own (by simp) hf fun h1 s1 n1 o1 => ?_
  repeat' (first
    | refine St.h ?_
    | simp (disch := first | omega | (simp only [lnv]; omega)) only [wlk, ↓get_put', ↓reduceIte, seval]
    | (with_reducible (first | apply cd_split | apply gd_split)) <;> (intro hc; (try simp only [hcn] at hc); (try simp only [hc]); (try simp only [hcl] at hc); try omega))
  refine AL.own (by simp) (s1.fl hf) fun h2 s2 n2 o2 => ?_
  have o1' := o1.stay s2 fun h => h
  by_cases hk : a.key = b.key
  · repeat' (first
      | refine St.h ?_
      | simp (disch := first | omega | (simp only [lnv]; omega)) only [wlk, ↓get_put', ↓reduceIte, seval, o1'.row.l1, o2.row.l1, hk]
      | (with_reducible (first | apply cd_split | apply gd_split)) <;> (intro hc; (try simp only [hcn] at hc); (try simp only [hc]); (try simp only [hcl] at hc); try omega))
    subst hQ
    exact ⟨by rw [lessE_eq hk], s1.trans s2⟩
  · repeat' (first
      | refine St.h ?_
      | simp (disch := first | omega | (simp only [lnv]; omega)) only [wlk, ↓get_put', ↓reduceIte, seval, o1'.row.l1, o2.row.l1, hk]
      | (with_reducible (first | apply cd_split | apply gd_split)) <;> (intro hc; (try simp only [hcn] at hc); (try simp only [hc]); (try simp only [hcl] at hc); try omega))
    subst hQ
    exact ⟨by rw [lessE_ne hk], s1.trans s2⟩
theorem rless_ok {h : H} {a b : Ent} (hf : B.val h.floor ≤ B.val h.next) : FnOk Try.prog 22 [.a [sv a.key, .i .i64 a.seq, .b a.del, sv a.val], .a [sv b.key, .i .i64 b.seq, .b b.del, sv b.val]] h fun y h' => y = .b (lessE a b) ∧ Stay nowhere h h' := by
  refine fn_go c22 (by intro hb; cases hb) (by simp) (by simp) fun Q hQ => ?_
  simp only [slotsF, Nat.reduceAdd]
  repeat' (first
    | refine St.h ?_
    | simp (disch := first | omega | (simp only [lnv]; omega)) only [wlk, ↓get_put', ↓reduceIte, seval]
    | (with_reducible (first | apply cd_split | apply gd_split)) <;> (intro hc; (try simp only [hcn] at hc); (try simp only [hc]); (try simp only [hcl] at hc); try omega))
  refine AL.own (by simp) hf fun h1 s1 n1 o1 => ?_
  repeat' (first
    | refine St.h ?_
    | simp (disch := first | omega | (simp only [lnv]; omega)) only [wlk, ↓get_put', ↓reduceIte, seval]
    | (with_reducible (first | apply cd_split | apply gd_split)) <;> (intro hc; (try simp only [hcn] at hc); (try simp only [hc]); (try simp only [hcl] at hc); try omega))
  refine AL.own (by simp) (s1.fl hf) fun h2 s2 n2 o2 => ?_
  have o1' := o1.stay s2 fun h => h
  cases hb : Op.bytesLess a.key b.key with
  | true =>
    repeat' (first
      | refine St.h ?_
      | simp (disch := first | omega | (simp only [lnv]; omega)) only [wlk, ↓get_put', ↓reduceIte, seval, o1'.row.l1, o2.row.l1, hb]
      | (with_reducible (first | apply cd_split | apply gd_split)) <;> (intro hc; (try simp only [hcn] at hc); (try simp only [hc]); (try simp only [hcl] at hc); try omega))
    subst hQ
    exact ⟨by rw [lessE_lt hb], s1.trans s2⟩
  | false =>
    by_cases hk : a.key = b.key
    · rw [hk] at hb
      repeat' (first
        | refine St.h ?_
        | simp (disch := first | omega | (simp only [lnv]; omega)) only [wlk, ↓get_put', ↓reduceIte, seval, o1'.row.l1, o2.row.l1, hk, hb]
        | (with_reducible (first | apply cd_split | apply gd_split)) <;> (intro hc; (try simp only [hcn] at hc); (try simp only [hc]); (try simp only [hcl] at hc); try omega))
      subst hQ
      exact ⟨by rw [lessE_eq hk], s1.trans s2⟩
    · repeat' (first
        | refine St.h ?_
        | simp (disch := first | omega | (simp only [lnv]; omega)) only [wlk, ↓get_put', ↓reduceIte, seval, o1'.row.l1, o2.row.l1, hk, hb]
        | (with_reducible (first | apply cd_split | apply gd_split)) <;> (intro hc; (try simp only [hcn] at hc); (try simp only [hc]); (try simp only [hcl] at hc); try omega))
      subst hQ
      exact ⟨by rw [lessE_ne hk, hb], s1.trans s2⟩
end Go.Proofs.Ytcaoeoeeaaeieaa

set_option linter.all false
namespace Go.Ev
open Go
theorem CPS.own {P : Program} {h : H} {N : Nx} {id : B} {el fin : Nat} {xs : List V} {s : List UInt8} {cap : Option Nat} (o : OwnE h id el xs) (hne : 1 ≤ s.length) (hj : s.length ≤ fin) (hfit : s.length < 2 ^ 37)
    (k : ∀ h', OwnE h' id el (s.map bv) → Stay (fun i => i = id) h h' → N.go P (.i .i64 (s.length : Int)) h') : CPS P (.l id 0 0 s.length fin cap) (sv s) h N := by
  obtain ⟨blk, a1, a2, a3, a4, aE, a5, a6, a7⟩ := o
  obtain ⟨next, floor, heap⟩ := h
  obtain ⟨cur, min, sz, cs, bel, fr⟩ := blk
  simp only at a2 a3 a4 aE a7
  subst a2; subst a3; subst a4; subst aE
  have hvl : (s.map bv).length = s.length := List.length_map _
  obtain ⟨tr, t1, t2, t3⟩ := setList_fine (s.map bv) 0 cs (by omega)
  obtain ⟨hp, s1, s2, s3⟩ := setK_ok id (⟨0, 0, sz, tr, bel, 0⟩ : Blk) heap
  have e1 : B.geB floor id = true := by cases floor <;> first | rfl | (show Nat.ble _ _ = true; rw [Nat.ble_eq]; exact a5)
  have e2 : Nat.ble (Nat.add 0 (s.map bv).length) fin = true := by rw [Nat.ble_eq]; show 0 + (s.map bv).length ≤ fin; omega
  have e4 : frOk 0 0 = true := rfl
  have e5 : Nat.beq 0 0 = true := rfl
  have e6 : Nat.ble 0 0 = true := rfl
  have a1' : heap.get id = some ⟨0, 0, sz, cs, bel, 0⟩ := a1
  refine hm_of (v := .i .i64 (s.length : Int)) (h' := ⟨next, floor, hp⟩) (fun q => ?_) (k _ ⟨_, s2, rfl, rfl, rfl, rfl, a5, a6, fun i z hz => by have := t2 i z hz; rwa [Nat.zero_add] at this⟩ ⟨rfl, Nat.le_refl _, fun i _ hi => s3 i hi⟩)
  show natC s.length (fun _ => false) (fun _ => copyToS (sv s) ⟨next, floor, heap⟩ q id 0 0 s.length fin) = _
  obtain ⟨m, hm⟩ : ∃ m, s.length = m + 1 := ⟨s.length - 1, by omega⟩
  have hc : ∀ (z : Unit → Bool) (f : Nat → Bool), natC s.length z f = f (m + 1) := fun z f => by rw [hm]; rfl
  rw [hc]
  unfold copyToS
  show unpK s.length (pk s) [] (fun vs => ifK (Nat.beq s.length s.length) fun _ => store ⟨next, floor, heap⟩ id 0 0 fin vs fun h => q (.i .i64 (.ofNat s.length)) h) = _
  rw [unpK_map _ _ _ _ rfl, List.append_nil, Nat.beq_refl, ifK_true]
  simp only [store, hK_mk, a1', optK_some, blkK_mk, e5, e6, e1, e2, allOne_bv, e4, ifK_true]
  rw [t1, s1]; rfl
theorem US.own {P : Program} {h : H} {N : Nx} {id : B} {el fin : Nat} {a : List UInt8} (o : OwnE h id el (a.map bv)) (hne : 1 ≤ a.length) (hj : a.length ≤ fin) (hl : a.length ≤ 1048576)
    (k : ∀ h', Stay (fun i => i = id) h h' → N.go P (sv a) h') : US P el (.p id 0 0 fin) (.i .i64 (a.length : Int)) h N := by
  have hrow : Row h id 0 0 (a.map bv) := o.own.row
  obtain ⟨blk, a1, a2, a3, a4, aE, a5, a6, a7⟩ := o
  have hld : ∀ k, loadN h id 0 0 fin a.length k = k (a.map bv) := fun k => by
    have := loadN_row (n := (a.map bv).length) (fin := fin) hrow rfl (by intro h0; have := congrArg List.length h0; simp at this; subst this; simp at hne) (by rw [List.length_map]; omega) k
    rwa [List.length_map] at this
  obtain ⟨next, floor, heap⟩ := h
  obtain ⟨cur, min, sz, cells, bel, fr⟩ := blk
  simp only at a2 a3 a4 aE a7
  subst a2; subst a3; subst a4; subst aE
  obtain ⟨hp, s1, s2, s3⟩ := setK_ok id (⟨0, 0, sz, cells, bel, a.length + 2⟩ : Blk) heap
  have a1' : heap.get id = some ⟨0, 0, sz, cells, bel, 0⟩ := a1
  have g2 : Nat.beq bel bel = true := Nat.beq_refl bel
  have g3 : B.geB floor id = true := by cases floor <;> first | rfl | (show Nat.ble _ _ = true; rw [Nat.ble_eq]; exact a5)
  have g4 : Nat.ble 1 a.length = true := by rw [Nat.ble_eq]; exact hne
  have g5 : Nat.ble a.length 1048576 = true := by rw [Nat.ble_eq]; exact hl
  have g6 : Nat.beq 0 0 = true := rfl
  have g7 : Nat.ble 0 0 = true := rfl
  refine US.of (v := sv a) (h' := ⟨next, floor, hp⟩) (fun q => ?_) (k _ ⟨rfl, Nat.le_refl _, fun i _ hi => s3 i hi⟩)
  simp only [vI_i, kdEq_self, ifK_true, natK_cast, vPZ_p]
  unfold uStrK
  rw [g6, ifK_true, g4, ifK_true, g5, ifK_true]
  simp only [elK, hK_mk, a1', optK_some, blkK_mk, g7, g2, ifK_true]
  rw [hld, pack_bv]
  have e0 : 0 * 256 ^ a.length + pk a = pk a := by rw [Nat.zero_mul, Nat.zero_add]
  rw [e0]
  simp only [freezeK, hK_mk, a1', optK_some, blkK_mk, g3, ifK_true]
  show fN (Nat.add a.length 2) (fun fr' => T.setK id ⟨0, 0, sz, cells, bel, fr'⟩ heap fun heap => q (.s a.length (pk a)) ⟨next, floor, heap⟩) = _
  rw [fN_eq]
  exact s1 _
end Go.Ev

set_option maxRecDepth 100000
set_option maxHeartbeats 8000000
set_option linter.all false
namespace Go.Proofs.Ytcaoeoeeaaeieaa
open Go Go.Ev
def tab8 : List UInt8 := [0, 1, 2, 2, 3, 3, 3, 3] ++ List.replicate 8 4 ++ List.replicate 16 5 ++ List.replicate 32 6 ++ List.replicate 64 7 ++ List.replicate 128 8
theorem tab8_len : tab8.length = 256 := by decide
theorem tab8_le (j : Nat) : (tab8.getD j 0).toNat ≤ 8 := by
  have : ∀ x ∈ tab8, x.toNat ≤ 8 := by decide
  by_cases h : j < tab8.length
  · rw [List.getD_eq_getElem?_getD, List.getElem?_eq_getElem h]
    exact this _ (List.getElem_mem h)
  · rw [List.getD_eq_getElem?_getD, List.getElem?_eq_none (by omega)]
    show 0 ≤ 8; omega
theorem tab8_s : V.s 256 496986003408712215933005303621146343841837811690876167382323004466384420695090407243345123874780946046625255262057845613767806773758184921447759720770971536008171983842311960805720366577116933250839345203839274948261284255908394484732272583221484877694546905335834403051067785895034095251181560891789708940188598129052595634438001880866652824740680664595948164050600812232986714152902334120417949232733424961741260388658846598210939813666227264727603044226856020347194099943897342244906131705541414413428559898943151040826816076322978570758226444464494629814583418847495712557856038296917933182380796641777551368 = sv tab8 := by rfl
theorem repL_bv (n : Nat) : repL [V.i .u8 0] n = (List.replicate n (0 : UInt8)).map bv := by
  rw [repL_one, List.map_replicate]; rfl
theorem lclone_ok {h : H} {s : List UInt8} (hs : s.length ≤ 1000000) (hf : B.val h.floor ≤ B.val h.next) : FnOk Try.prog 31 [sv s] h fun y h' => y = sv s ∧ Stay nowhere h h' := by
  refine fn_go c31 (by intro hb; cases hb) (by simp) (by simp) fun Q hQ => ?_
  simp only [slotsF, Nat.reduceAdd]
  repeat' (first
    | refine St.h ?_
    | simp (disch := first | omega | (simp only [lnv]; omega)) only [wlk, ↓get_put', ↓reduceIte, seval, Int.toNat_natCast]
    | (with_reducible (first | apply cd_split | apply gd_split)) <;> (intro hc; (try simp only [hcn] at hc); (try simp only [hc]); (try simp only [hcl] at hc); try omega))
  · subst hQ
    have : s = [] := List.eq_nil_of_length_eq_zero (by omega)
    subst this
    exact ⟨rfl, Stay.refl _ _⟩
  refine AL.ownE (by rw [repL_bv]; simp; omega) hf fun h1 s1 n1 o1 => ?_
  have hf1 := s1.fl hf
  repeat' (first
    | refine St.h ?_
    | simp (disch := first | omega | (simp only [lnv]; omega)) only [wlk, ↓get_put', ↓reduceIte, seval, Int.toNat_natCast]
    | (with_reducible (first | apply cd_split | apply gd_split)) <;> (intro hc; (try simp only [hcn] at hc); (try simp only [hc]); (try simp only [hcl] at hc); try omega))
  refine CPS.own o1 (by omega) (by omega) (by omega) fun h2 o2 s2 => ?_
  repeat' (first
    | refine St.h ?_
    | simp (disch := first | omega | (simp only [lnv]; omega)) only [wlk, ↓get_put', ↓reduceIte, seval, Int.toNat_natCast, or_ustr]
    | (with_reducible (first | apply cd_split | apply gd_split)) <;> (intro hc; (try simp only [hcn] at hc); (try simp only [hc]); (try simp only [hcl] at hc); try omega))
  refine US.own o2 (by omega) (by omega) (by omega) fun h3 s3 => ?_
  repeat' (first
    | refine St.h ?_
    | simp (disch := first | omega | (simp only [lnv]; omega)) only [wlk, ↓get_put', ↓reduceIte, seval]
    | (with_reducible (first | apply cd_split | apply gd_split)) <;> (intro hc; (try simp only [hcn] at hc); (try simp only [hc]); (try simp only [hcl] at hc); try omega))
  subst hQ
  exact ⟨rfl, (s1.past' s2 fun i hi => by rw [hi]; exact Nat.le_refl _).past' s3 fun i hi => by rw [hi]; exact Nat.le_refl _⟩
theorem clone_ok {h : H} {s : List UInt8} (hs : s.length ≤ 1000000) (hf : B.val h.floor ≤ B.val h.next) : FnOk Try.prog 26 [sv s] h fun y h' => y = sv s ∧ Stay nowhere h h' := by
  refine fn_go c26 (by intro hb; cases hb) (by simp) (by simp) fun Q hQ => ?_
  simp only [slotsF, Nat.reduceAdd]
  repeat' (first
    | refine St.h ?_
    | simp (disch := first | omega | (simp only [lnv]; omega)) only [wlk, ↓get_put', ↓reduceIte, seval]
    | (with_reducible (first | apply cd_split | apply gd_split)) <;> (intro hc; (try simp only [hcn] at hc); (try simp only [hc]); (try simp only [hcl] at hc); try omega))
  refine CL.stay (lclone_ok hs hf) fun h1 s1 => ?_
  repeat' (first
    | refine St.h ?_
    | simp (disch := first | omega | (simp only [lnv]; omega)) only [wlk, ↓get_put', ↓reduceIte, seval]
    | (with_reducible (first | apply cd_split | apply gd_split)) <;> (intro hc; (try simp only [hcn] at hc); (try simp only [hc]); (try simp only [hcl] at hc); try omega))
  subst hQ
  exact ⟨rfl, s1⟩
theorem tab_ix {P : Program} {h : H} {N : Nx} {kd : IntKind} {x : Int} (h0 : 0 ≤ x) (h1 : x < 256) : H2 P gSIndex (sv tab8) (.i kd x) h N = N.go P (.i .u8 ((min 8 (tab8.getD x.toNat 0).toNat : Nat) : Int)) h := by
  rw [h2_sindex h0 (by rw [tab8_len]; exact h1), Nat.min_eq_right (tab8_le _)]
theorem wrap_u64m {n : Int} : IntKind.u64.wrap n = n % 18446744073709551616 := by
  simp only [IntKind.wrap, IntKind.bits, IntKind.signed]; simp
theorem wrap_u64n {n : Nat} : IntKind.u64.wrap (n : Int) = ((n % 18446744073709551616 : Nat) : Int) := by rw [wrap_u64m]; omega
theorem wrap_rng (n : Int) : ∃ k : Nat, k < 18446744073709551616 ∧ IntKind.u64.wrap n = (k : Int) := by
  rw [wrap_u64m]
  exact ⟨(n % 18446744073709551616).toNat, by omega, by omega⟩
theorem len64_ok {h : H} {n : Nat} (hn : n < 18446744073709551616) : FnOk Try.prog 36 [.i .u64 (n : Int)] h fun y h' => ∃ k : Nat, k ≤ 64 ∧ y = .i .i64 (k : Int) ∧ h' = h := by
  refine fn_go c36 (by intro hb; cases hb) (by simp) (by simp) fun Q hQ => ?_
  simp only [slotsF, Nat.reduceAdd]
  repeat' (first
    | refine St.h ?_
    | simp (disch := first | omega | (simp only [lnv]; omega)) only [wlk, ↓get_put', ↓reduceIte, seval, Int.toNat_natCast, tab8_s, tab_ix]
    | (with_reducible (first | apply cd_split | apply gd_split)) <;> (intro hc; (try simp only [hcn] at hc); (try simp only [hc]); (try simp only [hcl] at hc); try omega))
  all_goals
    subst hQ
    refine ⟨(_ : Int).toNat, ?_, congrArg (V.i .i64) (Int.toNat_of_nonneg ?_).symm, rfl⟩ <;> omega
theorem rotl_ok {h : H} {n : Nat} (hn : n < 18446744073709551616) : FnOk Try.prog 34 [.i .u64 (n : Int), .i .i64 32] h fun y h' => ∃ k : Nat, k < 18446744073709551616 ∧ y = .i .u64 (k : Int) ∧ h' = h := by
  refine fn_go c34 (by intro hb; cases hb) (by simp) (by simp) fun Q hQ => ?_
  simp only [slotsF, Nat.reduceAdd]
  have e1 : IntKind.u64.wrap ((n : Int) * 4294967296) = ((n * 4294967296 % 18446744073709551616 : Nat) : Int) := by
    have := wrap_u64n (n := n * 4294967296)
    rw [← this]; congr 1
  have e2 : (n : Int) / 4294967296 = ((n / 4294967296 : Nat) : Int) := by omega
  repeat' (first
    | refine St.h ?_
    | simp (disch := first | omega | (simp only [lnv]; omega)) only [wlk, ↓get_put', ↓reduceIte, seval, Int.toNat_natCast, e1, e2]
    | (with_reducible (first | apply cd_split | apply gd_split)) <;> (intro hc; (try simp only [hcn] at hc); (try simp only [hc]); (try simp only [hcl] at hc); try omega))
  subst hQ
  exact ⟨_, Nat.or_lt_two_pow (n := 64) (by omega) (by omega), rfl, rfl⟩
theorem lead_ok {h : H} {n : Nat} (hn : n < 18446744073709551616) : FnOk Try.prog 35 [.i .u64 (n : Int)] h fun y h' => ∃ k : Nat, k ≤ 64 ∧ y = .i .i64 (k : Int) ∧ h' = h := by
  refine fn_go c35 (by intro hb; cases hb) (by simp) (by simp) fun Q hQ => ?_
  simp only [slotsF, Nat.reduceAdd]
  repeat' (first
    | refine St.h ?_
    | simp (disch := first | omega | (simp only [lnv]; omega)) only [wlk, ↓get_put', ↓reduceIte, seval]
    | (with_reducible (first | apply cd_split | apply gd_split)) <;> (intro hc; (try simp only [hcn] at hc); (try simp only [hc]); (try simp only [hcl] at hc); try omega))
  refine CL.mk (len64_ok hn) ?_
  rintro _ _ ⟨k, hk, rfl, rfl⟩
  repeat' (first
    | refine St.h ?_
    | simp (disch := first | omega | (simp only [lnv]; omega)) only [wlk, ↓get_put', ↓reduceIte, seval]
    | (with_reducible (first | apply cd_split | apply gd_split)) <;> (intro hc; (try simp only [hcn] at hc); (try simp only [hc]); (try simp only [hcl] at hc); try omega))
  subst hQ
  exact ⟨64 - k, by omega, by congr 1; omega, rfl⟩
theorem heightOf_ok {h : H} {e : Ent} (hk : e.key.length ≤ 1000000) (hf : B.val h.floor ≤ B.val h.next) : FnOk Try.prog 32 [.a (entC e)] h fun y h' => ∃ k : Nat, 1 ≤ k ∧ k ≤ 65 ∧ y = .i .i64 (k : Int) ∧ Stay nowhere h h' := by
  obtain ⟨xk, xq, xd, xv⟩ := e
  unfold entC
  have hk : xk.length ≤ 1000000 := hk
  refine fn_go c32 (by intro hb; cases hb) (by simp) (by simp) fun Q hQ => ?_
  simp only [slotsF, Nat.reduceAdd]
  repeat' (first
    | refine St.h ?_
    | simp (disch := first | omega | (simp only [lnv]; omega)) only [wlk, ↓get_put', ↓reduceIte, seval]
    | (with_reducible (first | apply cd_split | apply gd_split)) <;> (intro hc; (try simp only [hcn] at hc); (try simp only [hc]); (try simp only [hcl] at hc); try omega))
  refine AL.own (by simp) hf fun h1 s1 n1 o1 => ?_
  obtain ⟨n0, hn0, e0⟩ := wrap_rng (IntKind.u64.wrap xq * 11400714819323198485)
  repeat' (first
    | refine St.h ?_
    | simp (disch := first | omega | (simp only [lnv]; omega)) only [wlk, ↓get_put', ↓reduceIte, seval, o1.row.l1, e0]
    | (with_reducible (first | apply cd_split | apply gd_split)) <;> (intro hc; (try simp only [hcn] at hc); (try simp only [hc]); (try simp only [hcl] at hc); try omega))
  refine Ok.lp (fun m t g => ∃ (i n : Nat), m = xk.length - i ∧ i ≤ xk.length ∧ h1 = g ∧ n < 18446744073709551616 ∧ get 1 t = .p h.next 0 0 4 ∧ get 3 t = .i .u64 (n : Int) ∧ get 11 t = .i .i64 (xk.length : Int) ∧ get 12 t = .i .i64 (i : Int)) xk.length ?_ ?_
  · simp (disch := first | omega | (simp only [lnv]; omega)) only [wlk, ↓get_put', ↓reduceIte, seval]
    exact ⟨0, n0, by omega, by omega, trivial, hn0, trivial, rfl, trivial, rfl⟩
  rintro I hI m t g ⟨i, n, rfl, hi, rfl, hn, f1, f3, f11, f12⟩
  have or := o1.row
  repeat' (first
    | refine St.h ?_
    | simp (disch := first | omega | (simp only [lnv]; omega)) only [wlk, ↓get_put', ↓reduceIte, seval, f1, f3, f11, f12, or.l1, Int.toNat_natCast]
    | (with_reducible (first | apply cd_split | apply gd_split)) <;> (intro hc; (try simp only [hcn] at hc); (try simp only [hc]); (try simp only [hcl] at hc); try omega))
  · refine CL.mk (rotl_ok hn) ?_
    rintro _ _ ⟨k, hk, rfl, rfl⟩
    have hci := (xk.getD i 0).toNat_lt
    obtain ⟨n2, hn2, e2⟩ := wrap_rng (((k ^^^ (xk.getD i 0).toNat : Nat) : Int) * 11400714819323198485)
    repeat' (first
      | refine St.h ?_
      | simp (disch := first | omega | (simp only [lnv]; omega)) only [wlk, ↓get_put', ↓reduceIte, seval, f1, f3, f11, f12, or.l1, Int.toNat_natCast, e2]
      | (with_reducible (first | apply cd_split | apply gd_split)) <;> (intro hc; (try simp only [hcn] at hc); (try simp only [hc]); (try simp only [hcl] at hc); try omega))
    refine lp_next hI (xk.length - (i + 1)) (by omega) ⟨i + 1, n2, rfl, by omega, rfl, hn2, ?_, ?_, ?_, ?_⟩
    · simp (disch := first | omega | (simp only [lnv]; omega)) only [wlk, ↓get_put', ↓reduceIte, seval, f1]
    · simp (disch := first | omega | (simp only [lnv]; omega)) only [wlk, ↓get_put', ↓reduceIte, seval]
    · simp (disch := first | omega | (simp only [lnv]; omega)) only [wlk, ↓get_put', ↓reduceIte, seval, f11]
    · simp (disch := first | omega | (simp only [lnv]; omega)) only [wlk, ↓get_put', ↓reduceIte, seval]; rfl
  · refine CL.mk (lead_ok hn) ?_
    rintro _ _ ⟨k, hk, rfl, rfl⟩
    repeat' (first
      | refine St.h ?_
      | simp (disch := first | omega | (simp only [lnv]; omega)) only [wlk, ↓get_put', ↓reduceIte, seval]
      | (with_reducible (first | apply cd_split | apply gd_split)) <;> (intro hc; (try simp only [hcn] at hc); (try simp only [hc]); (try simp only [hcl] at hc); try omega))
    subst hQ
    exact ⟨k + 1, by omega, by omega, by congr 1; omega, s1⟩
end Go.Proofs.Ytcaoeoeeaaeieaa

set_option maxRecDepth 1000000
set_option linter.all false
namespace Go.Proofs.Ytcaoeoeeaaeieaa
open Go Go.Ev
noncomputable abbrev s16_0 : CC := (CC.seq (CC.region [(wB 4 (doMove (O.c (V.b Bool.false))))]) CC.ret)
noncomputable abbrev s16_1 : CC := (CC.cond (tm 10) s16_0 CC.skip)
noncomputable abbrev s16_2 : CC := (CC.seq (CC.region [(wB 6 (doMove (tm 0))), (wB 7 (doLen (tm 6))), (wB 8 (doMove (tm 1))), (wB 9 (doLen (tm 8))), (wB 10 (bin2 fNeq (tm 7) (tm 9)))]) s16_1)
noncomputable abbrev s16_3 : CC := (CC.cond (tm 14) CC.skip (CC.exit 0))
noncomputable abbrev s16_4 : CC := (CC.seq (CC.region [(wB 11 (doMove (tm 5))), (wB 12 (doMove (tm 0))), (wB 13 (doLen (tm 12))), (wB 14 (bin2 fLss (tm 11) (tm 13)))]) s16_3)
noncomputable abbrev s16_5 : CC := (CC.seq (CC.region [(wB 4 (doMove (O.c (V.b Bool.false))))]) CC.ret)
noncomputable abbrev s16_6 : CC := (CC.cond (tm 25) s16_5 CC.skip)
noncomputable abbrev s16_7 : CC := (CC.seq (CC.draws [(uB 17 (doMove (tm 0))), (uB 18 (doMove (tm 5))), (uB 19 (doIndexAddr 4 (tm 17) (tm 18))), (uB 20 (doLoadA 4 (tm 19))), (uB 21 (doMove (tm 1))), (uB 22 (doMove (tm 5))), (uB 23 (doIndexAddr 4 (tm 21) (tm 22))), (uB 24 (doLoadA 4 (tm 23))), (uB 25 (doSEq [KD.s, KD.i, KD.b, KD.s] Bool.true (tm 20) (tm 24)))]) s16_6)
noncomputable abbrev s16_8 : CC := (CC.block 1 s16_7)
noncomputable abbrev s16_9 : CC := (CC.region [(wB 15 (doMove (tm 5))), (wB 16 (bin2 fAdd (tm 15) (oN 1))), (wB 5 (doMove (tm 16)))])
noncomputable abbrev s16_10 : CC := (CC.seq s16_8 s16_9)
noncomputable abbrev l16_0 : CC := (CC.seq s16_4 s16_10)
noncomputable abbrev s16_11 : CC := (CC.loop l16_0)
noncomputable abbrev s16_12 : CC := (CC.block 0 s16_11)
noncomputable abbrev s16_13 : CC := (CC.seq (CC.region [(wB 5 (doMove (oN 0)))]) s16_12)
noncomputable abbrev s16_14 : CC := (CC.seq (CC.region [(wB 4 (doMove (O.c (V.b Bool.true))))]) CC.ret)
noncomputable abbrev s16_15 : CC := (CC.seq s16_13 s16_14)
noncomputable abbrev s16_16 : CC := (CC.seq s16_2 s16_15)
noncomputable abbrev b16 : CC := (CC.seq (CC.region [(wB 4 (doMove (O.c (V.b Bool.false))))]) s16_16)
theorem c16 : compFn Try.prog 16 = ⟨26, b16, [(Rs.tmp (slOf 4))]⟩ := by kernel_rfl
end Go.Proofs.Ytcaoeoeeaaeieaa

set_option maxRecDepth 100000
set_option maxHeartbeats 8000000
set_option linter.all false
namespace Go.Proofs.Ytcaoeoeeaaeieaa
open Go Go.Ev
theorem own_lt' {h : H} {id : B} {xs : List V} (o : Ev.Own h id xs) : B.val id < B.val h.next := by obtain ⟨_, _, _, _, _, _, h6, _⟩ := o; exact h6
theorem ent_ext {a b : Ent} (h : a.key = b.key ∧ a.seq = b.seq ∧ a.del = b.del ∧ a.val = b.val) : a = b := by
  obtain ⟨k1, q1, d1, v1⟩ := a
  obtain ⟨k2, q2, d2, v2⟩ := b
  obtain ⟨rfl, rfl, rfl, rfl⟩ := h
  rfl
theorem rsame_ok {h : H} {v w : V} {L M : List Ent} (hL : Es h v L) (hM : Es h w M) (hl : L.length ≤ 9223372036854775807) : FnOk Try.prog 16 [v, w] h fun y h' => y = .b (decide (L = M)) ∧ h' = h := by
  refine fn_go c16 (by intro hb; cases hb) (by simp) (by simp) fun Q hQ => ?_
  simp only [slotsF, Nat.reduceAdd]
  by_cases hlen : L.length = M.length
  case neg =>
    have hd : ((L.length : Int) = (M.length : Int)) = False := eq_false (by omega)
    repeat' (first
      | refine St.h ?_
      | simp (disch := first | omega | (simp only [lnv]; omega)) only [wlk, ↓get_put', ↓reduceIte, seval, hL.ln, hM.ln, hd]
      | (with_reducible (first | apply cd_split | apply gd_split)) <;> (intro hc; (try simp only [hcn] at hc); (try simp only [hc]); (try simp only [hcl] at hc); try omega))
    subst hQ
    exact ⟨by rw [decide_eq_false (fun e => hlen (by rw [e]))], rfl⟩
  have hd : ((L.length : Int) = (M.length : Int)) = True := eq_true (by omega)
  repeat' (first
    | refine St.h ?_
    | simp (disch := first | omega | (simp only [lnv]; omega)) only [wlk, ↓get_put', ↓reduceIte, seval, hL.ln, hM.ln, hd]
    | (with_reducible (first | apply cd_split | apply gd_split)) <;> (intro hc; (try simp only [hcn] at hc); (try simp only [hc]); (try simp only [hcl] at hc); try omega))
  refine Ok.lp (fun m t g => ∃ j : Nat, m = L.length - j ∧ h = g ∧ (∀ i, i < j → L.getD i default = M.getD i default) ∧ j ≤ L.length ∧ get 0 t = v ∧ get 1 t = w ∧ get 5 t = .i .i64 (j : Int)) L.length ?_ ?_
  · simp (disch := first | omega | (simp only [lnv]; omega)) only [wlk, ↓get_put', ↓reduceIte, seval]
    refine ⟨0, by omega, trivial, fun i hi => by omega, by omega, ?_⟩
    repeat' (first | trivial | rfl | refine And.intro ?_ ?_)
  rintro I hI m t g ⟨j, rfl, rfl, he, hj, f0, f1, f5⟩
  by_cases hje : L.getD j default = M.getD j default
  · have hd2 : (M.getD j default).key = (M.getD j default).key ∧ (M.getD j default).seq = (M.getD j default).seq ∧ (M.getD j default).del = (M.getD j default).del ∧ (M.getD j default).val = (M.getD j default).val := ⟨rfl, rfl, rfl, rfl⟩
    repeat' (first
      | refine St.h ?_
      | simp (disch := first | omega | (simp only [lnv]; omega)) only [wlk, ↓get_put', ↓reduceIte, seval, f0, f1, f5, hL.ln, hL.ix, hM.ix, hL.la, hM.la, hje, Int.toNat_natCast]
      | (with_reducible (first | apply cd_split | apply gd_split)) <;> (intro hc; (try simp only [hcn] at hc); (try simp only [hc]); (try simp only [hcl] at hc); try omega))
    · refine lp_next hI (L.length - (j + 1)) (by omega) ⟨j + 1, rfl, rfl, fun i hi => ?_, by omega, ?_, ?_, ?_⟩
      · by_cases e : i = j
        · subst e; exact hje
        · exact he i (by omega)
      · simp (disch := first | omega | (simp only [lnv]; omega)) only [wlk, ↓get_put', ↓reduceIte, seval, f0]
      · simp (disch := first | omega | (simp only [lnv]; omega)) only [wlk, ↓get_put', ↓reduceIte, seval, f1]
      · simp (disch := first | omega | (simp only [lnv]; omega)) only [wlk, ↓get_put', ↓reduceIte, seval]; rfl
    · obtain rfl : j = L.length := by omega
      subst hQ
      refine ⟨?_, rfl⟩
      rw [decide_eq_true]
      refine List.ext_getElem hlen fun i h1 h2 => ?_
      have := he i h1
      simpa [List.getD, h1, h2] using this
  · have hd2 : decide ((L.getD j default).key = (M.getD j default).key ∧ (L.getD j default).seq = (M.getD j default).seq ∧ (L.getD j default).del = (M.getD j default).del ∧ (L.getD j default).val = (M.getD j default).val) = false := decide_eq_false fun e => hje (ent_ext e)
    repeat' (first
      | refine St.h ?_
      | simp (disch := first | omega | (simp only [lnv]; omega)) only [wlk, ↓get_put', ↓reduceIte, seval, f0, f1, f5, hL.ln, hL.ix, hM.ix, hL.la, hM.la, hd2, Int.toNat_natCast]
      | (with_reducible (first | apply cd_split | apply gd_split)) <;> (intro hc; (try simp only [hcn] at hc); (try simp only [hc]); (try simp only [hcl] at hc); try omega))
    · subst hQ
      exact ⟨by rw [decide_eq_false (fun e => hje (by rw [e]))], rfl⟩
    · obtain rfl : j = L.length := by omega
      exact absurd (by simp [List.getD, ← hlen]) hje
/-- what is in a range -/
def inR (fr to : List UInt8) (e : Ent) : Bool := !Op.bytesLess e.key fr && (decide (to = []) || Op.bytesLess e.key to)
def rangeE (L : List Ent) (fr to : List UInt8) : List Ent := L.filter (inR fr to)
/-- a block, as it lies -/
structure Bk where
  v : V
  l : List Ent
instance : Inhabited Bk := ⟨⟨.l0, []⟩⟩
def bkC (b : Bk) : List V := [b.v]
theorem bkC_len (b : Bk) : (bkC b).length = 1 := rfl
/-- blocks, as they lie -/
structure Bls (h : H) (v : V) (bs : List (List Ent)) (ks : List Bk) : Prop where
  ss : Ss 1 bkC h v ks
  eq : ks.map (·.l) = bs
  es : ∀ k ∈ ks, Es h k.v k.l
section
variable {P : Program} {h h' g' : H} {N : Nx} {v : V} {bs : List (List Ent)} {ks : List Bk} {i : Nat}
theorem Bls.len (a : Bls h v bs ks) : ks.length = bs.length := by rw [← a.eq, List.length_map]
theorem Bls.ld (a : Bls h v bs ks) (hi : i < bs.length) : L1 P (lid v) (lg v) (loff v + i) (lfin v) h N = N.go P (ks.getD i default).v h := by
  have := a.ss.ld (P := P) (N := N) (i := i) (d := 0) bkC_len (by rw [a.len]; exact hi) (by omega)
  rwa [Nat.mul_one] at this
theorem Bls.grow (a : Bls h v bs ks) (s : Stay nowhere h h') : Bls h' v bs ks := ⟨a.ss.grow s, a.eq, fun k hk => (a.es k hk).grow s⟩
theorem Bls.at (a : Bls h v bs ks) (hi : i < bs.length) : Es h (ks.getD i default).v (bs.getD i []) := by
  have hk : i < ks.length := by rw [a.len]; exact hi
  have h1 := a.es (ks.getD i default) (by rw [List.getD_eq_getElem?_getD, List.getElem?_eq_getElem hk]; simp)
  have h2 : bs.getD i [] = (ks.getD i default).l := by rw [← a.eq]; simp [List.getD, List.getElem?_eq_getElem hk]
  rw [h2]; exact h1
end
end Go.Proofs.Ytcaoeoeeaaeieaa

set_option maxRecDepth 100000
set_option maxHeartbeats 8000000
set_option linter.all false
namespace Go.Proofs.Ytcaoeoeeaaeieaa
open Go Go.Ev
/-- a place: its entry, its block, its links' block, on how many heights it is linked, how many it has -/
structure Pl where
  e : Ent
  b : B
  c : B
  k : Nat
  m : Nat
def ptP (b : B) : V := .p b 0 0 5
/-- the first place that stands on that height -/
def fstP (j : Nat) : List Pl → V
  | [] => .p0
  | p :: L => if j < p.k then ptP p.b else fstP j L
/-- the last one, or what is ahead of all -/
def lasP (j : Nat) : V → List Pl → V
  | f, [] => f
  | f, p :: L => lasP j (if j < p.k then ptP p.b else f) L
def rowP (p : Pl) (L : List Pl) : List V := ((List.range p.k).map fun j => fstP j L) ++ List.replicate (p.m - p.k) .p0
def plC (p : Pl) : List V := entC p.e ++ [.l p.c 0 0 p.m p.m (some p.m)]
theorem rowP_len {p : Pl} (h : p.k ≤ p.m) (L : List Pl) : (rowP p L).length = p.m := by unfold rowP; simp; omega
theorem rowP_at {p : Pl} {L : List Pl} {j : Nat} (h : j < p.k) : (rowP p L).getD j .u = fstP j L := by
  unfold rowP
  rw [List.getD_eq_getElem?_getD, List.getElem?_append_left (by simp; exact h)]
  simp [h]
theorem fstP_none {j : Nat} : ∀ {L : List Pl}, (∀ p ∈ L, p.k ≤ j) → ∀ C, fstP j (L ++ C) = fstP j C
  | [], _, _ => rfl
  | p :: L, h, C => by
    have := h p (by simp)
    show (if j < p.k then _ else fstP j (L ++ C)) = _
    rw [if_neg (by omega), fstP_none (fun q hq => h q (List.mem_cons_of_mem _ hq)) C]
theorem fstP_all {j : Nat} {L : List Pl} (h : ∀ p ∈ L, p.k ≤ j) : fstP j L = .p0 := by
  have := fstP_none h []
  rw [List.append_nil] at this; exact this
theorem fstP_some {j : Nat} : ∀ {L : List Pl}, (∃ p ∈ L, j < p.k) → ∀ C D, fstP j (L ++ C) = fstP j (L ++ D)
  | [], h, _, _ => by obtain ⟨p, hp, _⟩ := h; cases hp
  | p :: L, h, C, D => by
    show (if j < p.k then _ else fstP j (L ++ C)) = (if j < p.k then _ else fstP j (L ++ D))
    by_cases hj : j < p.k
    · rw [if_pos hj, if_pos hj]
    · rw [if_neg hj, if_neg hj]
      obtain ⟨q, hq, h2⟩ := h
      rcases List.mem_cons.1 hq with e | e
      · rw [e] at h2; exact absurd h2 hj
      · exact fstP_some ⟨q, e, h2⟩ C D
theorem fstP_cons {j : Nat} {p : Pl} {L : List Pl} (h : j < p.k) : fstP j (p :: L) = ptP p.b := if_pos h
theorem fstP_skip {j : Nat} {p : Pl} {L : List Pl} (h : p.k ≤ j) : fstP j (p :: L) = fstP j L := if_neg (by omega)
theorem fstP_cases (j : Nat) : ∀ C : List Pl, (fstP j C = .p0 ∧ ∀ c ∈ C, c.k ≤ j) ∨ ∃ C1 q C2, C = C1 ++ q :: C2 ∧ (∀ c ∈ C1, c.k ≤ j) ∧ j < q.k ∧ fstP j C = ptP q.b
  | [] => .inl ⟨rfl, by simp⟩
  | p :: C => by
    by_cases hj : j < p.k
    · exact .inr ⟨[], p, C, rfl, by simp, hj, if_pos hj⟩
    · rcases fstP_cases j C with ⟨e, h⟩ | ⟨C1, q, C2, e, h1, h2, h3⟩
      · refine .inl ⟨by rw [fstP_skip (by omega)]; exact e, fun c hc => ?_⟩
        rcases List.mem_cons.1 hc with e | e
        · rw [e]; omega
        · exact h c e
      · refine .inr ⟨p :: C1, q, C2, by rw [e]; rfl, fun c hc => ?_, h2, by rw [fstP_skip (by omega)]; exact h3⟩
        rcases List.mem_cons.1 hc with e | e
        · rw [e]; omega
        · exact h1 c e
theorem lasP_app (j : Nat) : ∀ (f : V) (A C : List Pl), lasP j f (A ++ C) = lasP j (lasP j f A) C
  | _, [], _ => rfl
  | f, p :: A, C => lasP_app j _ A C
theorem lasP_none {j : Nat} : ∀ {f : V} {A : List Pl}, (∀ p ∈ A, p.k ≤ j) → lasP j f A = f
  | _, [], _ => rfl
  | f, p :: A, h => by
    have := h p (by simp)
    show lasP j (if j < p.k then _ else f) A = f
    rw [if_neg (by omega)]
    exact lasP_none fun q hq => h q (List.mem_cons_of_mem _ hq)
theorem lasP_snoc {j : Nat} {f : V} {A : List Pl} {p : Pl} : lasP j f (A ++ [p]) = if j < p.k then ptP p.b else lasP j f A := by rw [lasP_app]; rfl
theorem lasP_cases (j : Nat) (f : V) (A : List Pl) : (lasP j f A = f ∧ ∀ c ∈ A, c.k ≤ j) ∨ ∃ A1 q A2, A = A1 ++ q :: A2 ∧ (∀ c ∈ A2, c.k ≤ j) ∧ j < q.k ∧ lasP j f A = ptP q.b := by
  have key : ∀ (n : Nat) (A : List Pl), A.length = n → (lasP j f A = f ∧ ∀ c ∈ A, c.k ≤ j) ∨ ∃ A1 q A2, A = A1 ++ q :: A2 ∧ (∀ c ∈ A2, c.k ≤ j) ∧ j < q.k ∧ lasP j f A = ptP q.b := by
    intro n
    induction n with
    | zero => intro A hA; rw [List.eq_nil_of_length_eq_zero hA]; exact .inl ⟨rfl, by simp⟩
    | succ n ih =>
      intro A hA
      have hne : A ≠ [] := by intro e; rw [e] at hA; simp at hA
      obtain ⟨A', p, rfl⟩ : ∃ A' p, A = A' ++ [p] := ⟨A.dropLast, A.getLast hne, (List.dropLast_concat_getLast hne).symm⟩
      have hl : A'.length = n := by simpa using hA
      by_cases hj : j < p.k
      · exact .inr ⟨A', p, [], rfl, by simp, hj, by rw [lasP_snoc, if_pos hj]⟩
      · rcases ih A' hl with ⟨e, h⟩ | ⟨A1, q, A2, e, h1, h2, h3⟩
        · refine .inl ⟨by rw [lasP_snoc, if_neg hj]; exact e, fun c hc => ?_⟩
          rcases List.mem_append.1 hc with e | e
          · exact h c e
          · rw [List.mem_singleton.1 e]; omega
        · refine .inr ⟨A1, q, A2 ++ [p], by rw [e, List.append_assoc]; rfl, fun c hc => ?_, h2, by rw [lasP_snoc, if_neg hj]; exact h3⟩
          rcases List.mem_append.1 hc with e | e
          · exact h1 c e
          · rw [List.mem_singleton.1 e]; omega
  exact key A.length A rfl
theorem split3 {α : Type} : ∀ {A1 A : List α} {q p : α} {C1 C : List α}, A1 ++ q :: C1 = A ++ p :: C → (∃ A2, A = A1 ++ q :: A2 ∧ C1 = A2 ++ p :: C) ∨ (A1 = A ∧ q = p ∧ C1 = C) ∨ ∃ C', C = C' ++ q :: C1 ∧ A1 = A ++ p :: C'
  | [], [], q, p, C1, C, h => by cases h; exact .inr (.inl ⟨rfl, rfl, rfl⟩)
  | [], a :: A, q, p, C1, C, h => by cases h; exact .inl ⟨A, rfl, rfl⟩
  | a :: A1, [], q, p, C1, C, h => by cases h; exact .inr (.inr ⟨A1, rfl, rfl⟩)
  | a :: A1, b :: A, q, p, C1, C, h => by
    have h1 : a = b := (List.cons.inj h).1
    have h2 : A1 ++ q :: C1 = A ++ p :: C := (List.cons.inj h).2
    subst h1
    rcases split3 h2 with ⟨A2, e, e2⟩ | ⟨e, e1, e2⟩ | ⟨C', e, e2⟩
    · exact .inl ⟨A2, by rw [e]; rfl, e2⟩
    · exact .inr (.inl ⟨by rw [e], e1, e2⟩)
    · exact .inr (.inr ⟨C', e, by rw [e2]; rfl⟩)
/-- each place and its links are there -/
def ChnP (h : H) (L : List Pl) : Prop := ∀ A q C, L = A ++ q :: C → Ev.Own h q.b (plC q) ∧ Ev.Own h q.c (rowP q C)
/-- places apart -/
def apP (p q : Pl) : Prop := p.b ≠ q.b ∧ p.b ≠ q.c ∧ p.c ≠ q.b ∧ p.c ≠ q.c
theorem apP_symm {p q : Pl} (h : apP p q) : apP q p := ⟨fun e => h.1 e.symm, fun e => h.2.2.1 e.symm, fun e => h.2.1 e.symm, fun e => h.2.2.2 e.symm⟩
structure HpM (h : H) (s : B) (v : V) (K : Nat) (P : List Pl) (n y : Int) : Prop where
  own : Ev.Own h s [sv [], .i .i64 0, .b false, sv [], v, .i .i64 n, .i .i64 y]
  buf : Buf h 53 1 v ((List.range K).map fun j => fstP j P)
  tp : Top h v
  chn : ChnP h P
  pw : P.Pairwise apP
  ps : ∀ p ∈ P, p.b ≠ s ∧ p.c ≠ s ∧ p.b ≠ p.c ∧ ¬ isOf v p.b ∧ ¬ isOf v p.c
  vs : ¬ isOf v s
  ht : ∀ p ∈ P, p.k ≤ K ∧ p.k ≤ p.m
def fpP (s : B) (v : V) (P : List Pl) : B → Prop := fun i => i = s ∨ isOf v i ∨ ∃ p ∈ P, i = p.b ∨ i = p.c
section
variable {h h' : H} {s : B} {v : V} {K : Nat} {P A C : List Pl} {p : Pl} {n y : Int}
theorem HpM.at' (M : HpM h s v K P n y) (hp : p ∈ P) : Ev.Own h p.b (plC p) ∧ ∃ C, Ev.Own h p.c (rowP p C) := by
  obtain ⟨A, C, e⟩ := List.append_of_mem hp
  have := M.chn A p C e
  exact ⟨this.1, C, this.2⟩
theorem HpM.lt (M : HpM h s v K P n y) : ∀ i, fpP s v P i → B.val i < B.val h.next := by
  rintro i (e | e | ⟨p, hp, e⟩)
  · rw [e]; exact own_lt' M.own
  · exact (M.buf.own e).2
  · have := M.at' hp
    obtain ⟨o1, C, o2⟩ := this
    rcases e with e | e
    · rw [e]; exact own_lt' o1
    · rw [e]; exact own_lt' o2
theorem HpM.stay {q : B → Prop} (M : HpM h s v K P n y) (t : Stay q h h') (hq : ∀ i, fpP s v P i → ¬ q i) : HpM h' s v K P n y :=
  ⟨M.own.stay t (hq s (.inl rfl)), M.buf.stay t fun i e => hq i (.inr (.inl e)), M.tp.stay t (fun i e => (M.buf.own e).2) fun i e => hq i (.inr (.inl e)),
   fun A p C e => ⟨(M.chn A p C e).1.stay t (hq _ (.inr (.inr ⟨p, by rw [e]; simp, .inl rfl⟩))), (M.chn A p C e).2.stay t (hq _ (.inr (.inr ⟨p, by rw [e]; simp, .inr rfl⟩)))⟩, M.pw, M.ps, M.vs, M.ht⟩
theorem HpM.grow (M : HpM h s v K P n y) (t : Stay nowhere h h') : HpM h' s v K P n y := M.stay t fun _ _ e => e
theorem range_at {f : Nat → V} {j : Nat} (h : j < K) : ((List.range K).map f).getD j .u = f j := by
  rw [List.getD_eq_getElem?_getD]; simp [h]
/-- what stands at the last place of a row, or ahead of all -/
def atV (s : B) (A : List Pl) : V := match A.getLast? with
  | none => .p s 0 0 7
  | some p => ptP p.b
def hgP (K : Nat) (A : List Pl) : Nat := match A.getLast? with
  | none => K
  | some p => p.k
theorem atV_snoc : atV s (A ++ [p]) = ptP p.b := by unfold atV; rw [List.getLast?_concat]
theorem hgP_nil : hgP K [] = K := rfl
theorem hgP_snoc : hgP K (A ++ [p]) = p.k := by unfold hgP; rw [List.getLast?_concat]
theorem las_at {j : Nat} (h : j < hgP K A) : lasP j (.p s 0 0 7) A = atV s A := by
  rcases List.eq_nil_or_concat A with rfl | ⟨A', p, rfl⟩
  · rfl
  · rw [List.concat_eq_append] at *
    rw [hgP_snoc] at h
    rw [lasP_snoc, if_pos h, atV_snoc]
theorem HpM.rd (M : HpM h s v K (A ++ C) n y) : ∃ (b : B) (fin : Nat) (w : V) (R : List V), atV s A = .p b 0 0 fin ∧ (∀ N, L1 Try.prog b 0 4 fin h N = N.go Try.prog w h) ∧ Lst h w R ∧ hgP K A ≤ R.length ∧ ∀ j, j < hgP K A → R.getD j .u = fstP j C := by
  rcases List.eq_nil_or_concat A with rfl | ⟨A', p, rfl⟩
  · refine ⟨s, 7, v, _, rfl, fun N => M.own.row.l1 (by simp) (by omega), M.buf.lst, by simp [hgP_nil], fun j hj => ?_⟩
    rw [hgP_nil] at hj
    rw [range_at hj]; rfl
  · rw [List.concat_eq_append] at *
    have e : A' ++ [p] ++ C = A' ++ p :: C := by rw [List.append_assoc]; rfl
    obtain ⟨o1, o2⟩ := M.chn A' p C e
    have hk := M.ht p (by rw [e]; simp)
    have hl := o2.lst (some p.m)
    rw [rowP_len hk.2] at hl
    exact ⟨p.b, 5, .l p.c 0 0 p.m p.m (some p.m), rowP p C, atV_snoc, fun N => o1.row.l1 (by unfold plC entC; simp) (by omega), hl, by rw [hgP_snoc, rowP_len hk.2]; exact hk.2, fun j hj => rowP_at (by rwa [hgP_snoc] at hj)⟩
end
end Go.Proofs.Ytcaoeoeeaaeieaa

set_option maxRecDepth 100000
set_option maxHeartbeats 8000000
set_option linter.all false
namespace Go.Proofs.Ytcaoeoeeaaeieaa
open Go Go.Ev
/-- a row of places: one that was made, or one that grew -/
def Ah (h : H) (w : V) (R : List V) : Prop := (∃ id, w = .l id 0 0 R.length R.length (some R.length) ∧ Ev.Own h id R) ∨ (Buf h 53 1 w R ∧ Top h w)
theorem Ah.lst {h : H} {w : V} {R : List V} (a : Ah h w R) : Lst h w R := by
  rcases a with ⟨id, rfl, o⟩ | ⟨b, _⟩
  · exact o.lst _
  · exact b.lst
theorem sorted_parts {A C1 C2 : List Pl} {q : Pl} (hs : sortedE ((A ++ (C1 ++ q :: C2)).map (·.e)) = true) : (∀ c ∈ C1, lessE c.e q.e = true) ∧ ∀ c ∈ C2, lessE q.e c.e = true := by
  rw [sorted_pw, List.map_append, List.pairwise_append] at hs
  have h2 := hs.2.1
  rw [List.map_append, List.pairwise_append] at h2
  refine ⟨fun c hc => h2.2.2 c.e (List.mem_map_of_mem hc) q.e (by simp), fun c hc => ?_⟩
  have h3 := h2.2.1
  rw [List.map_cons, List.pairwise_cons] at h3
  exact h3.1 c.e (List.mem_map_of_mem hc)
theorem range_set {K j : Nat} {f : Nat → V} {z : V} : ((List.range K).map f).set j z = (List.range K).map fun i => if i = j then z else f i := by
  refine List.ext_getElem? fun i => ?_
  rw [List.getElem?_set]
  simp only [List.length_map, List.length_range, List.getElem?_map]
  by_cases hi : i < K
  · rw [List.getElem?_range hi]
    by_cases e : j = i
    · subst e; simp [hi]
    · rw [if_neg e]
      have : ¬ i = j := fun h => e h.symm
      simp [this]
  · rw [List.getElem?_eq_none (by simp; omega)]
    by_cases e : j = i
    · subst e; simp [hi]
    · rw [if_neg e]; rfl
/-- what is told of the heights from that one on -/
def ahF (s : B) (A : List Pl) (i : Nat) : Nat → V := fun j => if i ≤ j then lasP j (.p s 0 0 7) A else .p0
theorem ahF_ext {s : B} {A D : List Pl} {i : Nat} (h : ∀ d ∈ D, d.k ≤ i) : ahF s (A ++ D) i = ahF s A i := by
  funext j
  unfold ahF
  by_cases e : i ≤ j
  · rw [if_pos e, if_pos e, lasP_app, lasP_none fun d hd => Nat.le_trans (h d hd) e]
  · rw [if_neg e, if_neg e]
theorem ahF_start {s : B} {K : Nat} : (List.range K).map (ahF s [] K) = List.replicate K .p0 := by
  refine List.ext_getElem? fun i => ?_
  rw [List.getElem?_map, List.getElem?_replicate]
  by_cases hi : i < K
  · rw [List.getElem?_range hi, if_pos hi]
    show some (ahF s [] K i) = _
    unfold ahF; rw [if_neg (by omega)]
  · rw [List.getElem?_eq_none (by simp; omega), if_neg hi]; rfl
theorem ahF_set {s : B} {K : Nat} {A : List Pl} {j : Nat} (h : j < hgP K A) : ((List.range K).map (ahF s A (j + 1))).set j (atV s A) = (List.range K).map (ahF s A j) := by
  rw [range_set]
  congr 1
  funext i
  unfold ahF
  by_cases e : i = j
  · subst e; rw [if_pos rfl, if_pos (Nat.le_refl _), las_at h]
  · rw [if_neg e]
    by_cases e2 : j ≤ i
    · rw [if_pos e2, if_pos (by omega)]
    · rw [if_neg e2, if_neg (by omega)]
theorem ahF_zero {s : B} {A : List Pl} : ahF s A 0 = fun j => lasP j (.p s 0 0 7) A := by funext j; unfold ahF; rw [if_pos (Nat.zero_le _)]
theorem seek_ok {h : H} {s : B} {v : V} {K : Nat} {P : List Pl} {n y : Int} {x : Ent} (M : HpM h s v K P n y) (hs : sortedE (P.map (·.e)) = true) (hk1 : ∀ p ∈ P, 1 ≤ p.k) (hK : K ≤ 65) (hf : B.val h.floor ≤ B.val h.next) :
    FnOk Try.prog 24 [.p s 0 0 7, .a (entC x)] h fun r h' => ∃ w A C, P = A ++ C ∧ (∀ a ∈ A, lessE a.e x = true) ∧ (∀ c ∈ C, lessE c.e x = false) ∧ r = .tu [w, fstP 0 C] ∧ Ah h' w ((List.range K).map fun j => lasP j (.p s 0 0 7) A) ∧ (∀ i, isOf w i → B.val h.next ≤ B.val i) ∧ Stay nowhere h h' := by
  obtain ⟨xk, xq, xd, xv⟩ := x
  unfold entC
  refine fn_go c24 (by intro hb; cases hb) (by simp) (by simp) fun Q hQ => ?_
  simp only [slotsF, Nat.reduceAdd]
  repeat' (first
    | refine St.h ?_
    | simp (disch := first | omega | (simp only [lnv]; omega)) only [wlk, ↓get_put', ↓reduceIte, seval]
    | (with_reducible (first | apply cd_split | apply gd_split)) <;> (intro hc; (try simp only [hcn] at hc); (try simp only [hc]); (try simp only [hcl] at hc); try omega))
  refine AL.own (by simp) hf fun h1 s1 n1 o1 => ?_
  have hf1 := s1.fl hf
  have M1 := M.grow s1
  have hln := fun g N => M1.buf.lst.ln (P := Try.prog) (h := g) (N := N)
  rw [List.length_map, List.length_range] at hln
  repeat' (first
    | refine St.h ?_
    | simp (disch := first | omega | (simp only [lnv]; omega)) only [wlk, ↓get_put', ↓reduceIte, seval, M1.own.row.l1, hln]
    | (with_reducible (first | apply cd_split | apply gd_split)) <;> (intro hc; (try simp only [hcn] at hc); (try simp only [hc]); (try simp only [hcl] at hc); try omega))
  rw [repL_one]
  refine AL.own (by simp; omega) hf1 fun h2 s2 n2 o2 => ?_
  have hf2 := s2.fl hf1
  have s02 := s1.trans s2
  have hhl := fun (g : H) (N : Nx) => gLen_l (P := Try.prog) (h := g) (N := N) (id := h1.next) (g := 0) (off := 0) (len := K) (fin := K) (cap := some K)
  repeat' (first
    | refine St.h ?_
    | simp (disch := first | omega | (simp only [lnv]; omega)) only [wlk, ↓get_put', ↓reduceIte, seval, hhl]
    | (with_reducible (first | apply cd_split | apply gd_split)) <;> (intro hc; (try simp only [hcn] at hc); (try simp only [hc]); (try simp only [hcl] at hc); try omega))
  refine Ok.lp (fun m t g => ∃ (i : Nat) (A C : List Pl), m = i ∧ i ≤ K ∧ P = A ++ C ∧ (∀ a ∈ A, lessE a.e ⟨xk, xq, xd, xv⟩ = true) ∧ i ≤ hgP K A ∧ (∀ c ∈ C, lessE c.e ⟨xk, xq, xd, xv⟩ = true → c.k ≤ i) ∧ get 3 t = .p h.next 0 0 4 ∧ get 6 t = .l h1.next 0 0 K K (some K) ∧ get 7 t = atV s A ∧ get 8 t = (if i < K then fstP i C else .p0) ∧ get 9 t = .i .i64 ((i : Int) - 1) ∧ Ev.Own g h.next [sv xk, .i .i64 xq, .b xd, sv xv] ∧ Ev.Own g h1.next ((List.range K).map (ahF s A i)) ∧ Stay nowhere h g) K ?_ ?_
  · simp (disch := first | omega | (simp only [lnv]; omega)) only [wlk, ↓get_put', ↓reduceIte, seval]
    refine ⟨K, [], P, rfl, Nat.le_refl _, rfl, by simp, Nat.le_refl _, fun c hc _ => (M.ht c hc).1, ?_, ?_, ?_, ?_, ?_, o1.stay s2 fun e => e, by rw [ahF_start]; exact o2, s02⟩
    all_goals first | trivial | rfl | (simp; done)
  rintro I hI m t g ⟨i, A, C, rfl, hi, hP, hA, hh, hC, f3, f6, f7, f8, f9, oe, oa, st⟩
  have hfg := st.fl hf
  rcases m with _ | j
  · have hC' : ∀ c ∈ C, lessE c.e ⟨xk, xq, xd, xv⟩ = false := fun c hc => by
      cases e : lessE c.e ⟨xk, xq, xd, xv⟩ with
      | false => rfl
      | true => have := hC c hc e; have := hk1 c (by rw [hP]; simp [hc]); omega
    have e8 : get 8 t = fstP 0 C := by
      rw [f8]
      by_cases e : 0 < K
      · rw [if_pos e]
      · rw [if_neg e]
        have : C = [] := List.eq_nil_iff_forall_not_mem.2 fun c hc => by
          have h3 := hk1 c (by rw [hP]; simp [hc])
          have h4 := (M.ht c (by rw [hP]; simp [hc])).1
          omega
        rw [this]; rfl
    repeat' (first
      | refine St.h ?_
      | simp (disch := first | omega | (simp only [lnv]; omega)) only [wlk, ↓get_put', ↓reduceIte, seval, f3, f6, f7, e8, f9]
      | (with_reducible (first | apply cd_split | apply gd_split)) <;> (intro hc; (try simp only [hcn] at hc); (try simp only [hc]); (try simp only [hcl] at hc); try omega))
    subst hQ
    refine ⟨_, A, C, hP, hA, hC', rfl, .inl ⟨h1.next, by simp, by rw [← ahF_zero]; exact oa⟩, ?_, st⟩
    rintro i ⟨_, _, _, _, _, e⟩
    cases e; exact s1.next
  have e9 : ((j + 1 : Nat) : Int) - 1 = (j : Int) := by omega
  rw [e9] at f9
  repeat' (first
    | refine St.h ?_
    | simp (disch := first | omega | (simp only [lnv]; omega)) only [wlk, ↓get_put', ↓reduceIte, seval, f3, f6, f7, f9]
    | (with_reducible (first | apply cd_split | apply gd_split)) <;> (intro hc; (try simp only [hcn] at hc); (try simp only [hc]); (try simp only [hcl] at hc); try omega))
  refine Ok.lp (fun m t g' => ∃ (A C : List Pl), m = C.length ∧ P = A ++ C ∧ (∀ a ∈ A, lessE a.e ⟨xk, xq, xd, xv⟩ = true) ∧ j < hgP K A ∧ (∀ c ∈ C, lessE c.e ⟨xk, xq, xd, xv⟩ = true → c.k ≤ j + 1) ∧ get 3 t = .p h.next 0 0 4 ∧ get 6 t = .l h1.next 0 0 K K (some K) ∧ get 7 t = atV s A ∧ get 9 t = .i .i64 (j : Int) ∧ Ev.Own g' h.next [sv xk, .i .i64 xq, .b xd, sv xv] ∧ Ev.Own g' h1.next ((List.range K).map (ahF s A (j + 1))) ∧ Stay nowhere h g') C.length ?_ ?_
  · simp (disch := first | omega | (simp only [lnv]; omega)) only [wlk, ↓get_put', ↓reduceIte, seval, f3, f6, f7, f9]
    refine ⟨A, C, rfl, hP, hA, hh, hC, ?_, ?_, ?_, ?_, oe, oa, st⟩ <;> first | trivial | rfl
  clear hP hA hC hh f3 f6 f7 f8 f9 oe oa st hfg
  clear C A
  rintro J hJ m t g' ⟨A, C, rfl, hP, hA, hh, hC, f3, f6, f7, f9, oe, oa, st⟩
  have hfg := st.fl hf
  have hs' := hs
  rw [hP] at hs'
  have Mg : HpM g' s v K (A ++ C) n y := by rw [← hP]; exact M.grow st
  obtain ⟨b, fin, w, R, e1, e2, e3, e4, e5⟩ := Mg.rd
  have e6 := e5 j hh
  rw [e1] at f7
  have oer := oe.row
  rcases fstP_cases j C with ⟨c1, c2⟩ | ⟨C1, q, C2, c1, c2, c3, c4⟩
  · rw [c1] at e6
    repeat' (first
      | refine St.h ?_
      | simp (disch := first | omega | (simp only [lnv]; omega)) only [wlk, ↓get_put', ↓reduceIte, seval, f3, f6, f7, f9, e2, e3.ix, e3.ld, e6, Int.toNat_natCast, or_ptr, h2_ptr00, h2_ptr10]
      | (with_reducible (first | apply cd_split | apply gd_split)) <;> (intro hc; (try simp only [hcn] at hc); (try simp only [hc]); (try simp only [hcl] at hc); try omega))
    refine ST.own oa rfl rfl (by omega) (by omega) fun h5 o5 s5 => ?_
    rw [← e1, ahF_set hh] at o5
    have hne : h1.next ≠ h.next := fun e => by have := n1; rw [e] at this; omega
    repeat' (first
      | refine St.h ?_
      | simp (disch := first | omega | (simp only [lnv]; omega)) only [wlk, ↓get_put', ↓reduceIte, seval, f3, f6, f7, f9]
      | (with_reducible (first | apply cd_split | apply gd_split)) <;> (intro hc; (try simp only [hcn] at hc); (try simp only [hc]); (try simp only [hcl] at hc); try omega))
    refine lp_next hI j (by omega) ⟨j, A, C, rfl, by omega, hP, hA, Nat.le_of_lt hh, fun c hc _ => c2 c hc, ?_, ?_, ?_, ?_, ?_, oe.stay s5 fun e => hne e.symm, o5, st.past' s5 fun i e => by rw [e]; exact s1.next⟩
    · simp (disch := first | omega | (simp only [lnv]; omega)) only [wlk, ↓get_put', ↓reduceIte, seval, f3]
    · simp (disch := first | omega | (simp only [lnv]; omega)) only [wlk, ↓get_put', ↓reduceIte, seval, f6]
    · simp (disch := first | omega | (simp only [lnv]; omega)) only [wlk, ↓get_put', ↓reduceIte, seval, f7, e1]
    · rw [if_pos (by omega), c1]; simp (disch := first | omega | (simp only [lnv]; omega)) only [wlk, ↓get_put', ↓reduceIte, seval]
    · simp (disch := first | omega | (simp only [lnv]; omega)) only [wlk, ↓get_put', ↓reduceIte, seval]
  rw [c4, ptP] at e6
  subst c1
  have e7 : A ++ (C1 ++ q :: C2) = (A ++ C1) ++ q :: C2 := (List.append_assoc ..).symm
  have oq := (Mg.chn (A ++ C1) q C2 e7).1
  unfold plC entC at oq
  have oqr := oq.row
  repeat' (first
    | refine St.h ?_
    | simp (disch := first | omega | (simp only [lnv]; omega)) only [wlk, ↓get_put', ↓reduceIte, seval, f3, f6, f7, f9, e2, e3.ix, e3.ld, e6, Int.toNat_natCast, or_ptr, h2_ptr00, h2_ptr10, oqr.ln, oer.ln]
    | (with_reducible (first | apply cd_split | apply gd_split)) <;> (intro hc; (try simp only [hcn] at hc); (try simp only [hc]); (try simp only [hcl] at hc); try omega))
  refine CL.stay (less_ok (a := q.e) (b := ⟨xk, xq, xd, xv⟩) hfg) fun h5 s5 => ?_
  have oe5 := oe.stay s5 fun e => e
  have oa5 := oa.stay s5 fun e => e
  have st5 := st.trans s5
  obtain ⟨sp1, sp2⟩ := sorted_parts hs'
  cases hl : lessE q.e ⟨xk, xq, xd, xv⟩ with
  | false =>
    repeat' (first
      | refine St.h ?_
      | simp (disch := first | omega | (simp only [lnv]; omega)) only [wlk, ↓get_put', ↓reduceIte, seval, f3, f6, f7, f9]
      | (with_reducible (first | apply cd_split | apply gd_split)) <;> (intro hc; (try simp only [hcn] at hc); (try simp only [hc]); (try simp only [hcl] at hc); try omega))
    refine ST.own oa5 rfl rfl (by omega) (by omega) fun h6 o6 s6 => ?_
    rw [← e1, ahF_set hh] at o6
    have hne : h1.next ≠ h.next := fun e => by have := n1; rw [e] at this; omega
    repeat' (first
      | refine St.h ?_
      | simp (disch := first | omega | (simp only [lnv]; omega)) only [wlk, ↓get_put', ↓reduceIte, seval, f3, f6, f7, f9]
      | (with_reducible (first | apply cd_split | apply gd_split)) <;> (intro hc; (try simp only [hcn] at hc); (try simp only [hc]); (try simp only [hcl] at hc); try omega))
    refine lp_next hI j (by omega) ⟨j, A, C1 ++ q :: C2, rfl, by omega, hP, hA, Nat.le_of_lt hh, fun c hc e => ?_, ?_, ?_, ?_, ?_, ?_, oe5.stay s6 fun e => hne e.symm, o6, st5.past' s6 fun i e => by rw [e]; exact s1.next⟩
    · rcases List.mem_append.1 hc with h7 | h7
      · exact c2 c h7
      · rcases List.mem_cons.1 h7 with h7 | h7
        · rw [h7, hl] at e; cases e
        · have := lessE_trans (sp2 c h7) e
          rw [hl] at this; cases this
    · simp (disch := first | omega | (simp only [lnv]; omega)) only [wlk, ↓get_put', ↓reduceIte, seval, f3]
    · simp (disch := first | omega | (simp only [lnv]; omega)) only [wlk, ↓get_put', ↓reduceIte, seval, f6]
    · simp (disch := first | omega | (simp only [lnv]; omega)) only [wlk, ↓get_put', ↓reduceIte, seval, f7, e1]
    · rw [if_pos (by omega), c4, ptP]; simp (disch := first | omega | (simp only [lnv]; omega)) only [wlk, ↓get_put', ↓reduceIte, seval]
    · simp (disch := first | omega | (simp only [lnv]; omega)) only [wlk, ↓get_put', ↓reduceIte, seval]
  | true =>
    repeat' (first
      | refine St.h ?_
      | simp (disch := first | omega | (simp only [lnv]; omega)) only [wlk, ↓get_put', ↓reduceIte, seval, f3, f6, f7, f9]
      | (with_reducible (first | apply cd_split | apply gd_split)) <;> (intro hc; (try simp only [hcn] at hc); (try simp only [hc]); (try simp only [hcl] at hc); try omega))
    refine lp_next hJ C2.length (by simp; omega) ⟨A ++ C1 ++ [q], C2, rfl, by rw [hP]; simp, fun a ha => ?_, by rw [hgP_snoc]; exact c3, fun c hc e => hC c (by simp [hc]) e, ?_, ?_, ?_, ?_, oe5, ?_, st5⟩
    · rcases List.mem_append.1 ha with h7 | h7
      · rcases List.mem_append.1 h7 with h7 | h7
        · exact hA a h7
        · exact lessE_trans (sp1 a h7) hl
      · rw [List.mem_singleton.1 h7]; exact hl
    · simp (disch := first | omega | (simp only [lnv]; omega)) only [wlk, ↓get_put', ↓reduceIte, seval, f3]
    · simp (disch := first | omega | (simp only [lnv]; omega)) only [wlk, ↓get_put', ↓reduceIte, seval, f6]
    · rw [atV_snoc, ptP]; simp (disch := first | omega | (simp only [lnv]; omega)) only [wlk, ↓get_put', ↓reduceIte, seval]
    · simp (disch := first | omega | (simp only [lnv]; omega)) only [wlk, ↓get_put', ↓reduceIte, seval, f9]
    · rw [List.append_assoc, ahF_ext fun d hd => ?_]
      · exact oa5
      · rcases List.mem_append.1 hd with h7 | h7
        · have := c2 d h7; omega
        · rw [List.mem_singleton.1 h7]; exact hC q (by simp) hl
end Go.Proofs.Ytcaoeoeeaaeieaa

set_option maxRecDepth 100000
set_option maxHeartbeats 8000000
set_option linter.all false
namespace Go.Proofs.Ytcaoeoeeaaeieaa
open Go Go.Ev
section
variable {h h' h1 h2 : H} {s : B} {v v' w : V} {K i j : Nat} {P A C : List Pl} {p p' q : Pl} {n y : Int}
theorem fstP_ins (hk : p.k ≤ j) : fstP j (A ++ p :: C) = fstP j (A ++ C) := by
  induction A with
  | nil => exact fstP_skip hk
  | cons a A ih => show (if j < a.k then _ else fstP j (A ++ p :: C)) = (if j < a.k then _ else fstP j (A ++ C)); rw [ih]
theorem fstP_ne (hb : p'.b = p.b) (hj : j < p'.k ↔ j < p.k) : fstP j (A ++ p' :: C) = fstP j (A ++ p :: C) := by
  induction A with
  | nil =>
    show (if j < p'.k then ptP p'.b else _) = if j < p.k then ptP p.b else _
    rw [hb]
    by_cases e : j < p.k
    · rw [if_pos e, if_pos (hj.2 e)]
    · rw [if_neg e, if_neg fun h => e (hj.1 h)]
  | cons a A ih => show (if j < a.k then _ else fstP j (A ++ p' :: C)) = (if j < a.k then _ else fstP j (A ++ p :: C)); rw [ih]
theorem rowP_congr {L L' : List Pl} (h : ∀ j, j < q.k → fstP j L = fstP j L') : rowP q L = rowP q L' := by
  unfold rowP
  congr 1
  exact List.map_congr_left fun j hj => h j (List.mem_range.1 hj)
theorem rowP_set {L : List Pl} {z : V} (hi : i < q.k) : (rowP q L).set i z = ((List.range q.k).map fun j => if j = i then z else fstP j L) ++ List.replicate (q.m - q.k) .p0 := by
  unfold rowP
  rw [List.set_append_left _ _ (by simp; exact hi), range_set]
theorem rowP_up (hk : p.k < p.m) (e1 : p'.k = p.k + 1) (e2 : p'.m = p.m) {L : List Pl} : (rowP p L).set p.k (fstP p.k L) = rowP p' L := by
  unfold rowP
  rw [List.set_append_right _ _ (by simp), e1, e2, List.range_succ, List.map_append, List.append_assoc]
  congr 1
  obtain ⟨d, hd⟩ : ∃ d, p.m - p.k = d + 1 := ⟨p.m - p.k - 1, by omega⟩
  rw [hd, show p.m - (p.k + 1) = d by omega, List.replicate_succ]
  simp
theorem HpM.ins (M : HpM h s v K (A ++ C) n y) (o1 : Ev.Own h p.b (plC p)) (o2 : Ev.Own h p.c (rowP p C)) (hk : p.k = 0) (ha : ∀ i, fpP s v (A ++ C) i → i ≠ p.b ∧ i ≠ p.c) (hbc : p.b ≠ p.c) : HpM h s v K (A ++ p :: C) n y := by
  have hmem : ∀ {q}, q ∈ A ++ p :: C → q = p ∨ q ∈ A ++ C := fun {q} hq => by
    rcases List.mem_append.1 hq with e | e
    · exact .inr (List.mem_append_left _ e)
    · rcases List.mem_cons.1 e with e | e
      · exact .inl e
      · exact .inr (List.mem_append_right _ e)
  have hap : ∀ q ∈ A ++ C, apP p q := fun q hq => by
    have h1 := ha q.b (.inr (.inr ⟨q, hq, .inl rfl⟩))
    have h2 := ha q.c (.inr (.inr ⟨q, hq, .inr rfl⟩))
    exact ⟨fun e => h1.1 e.symm, fun e => h2.1 e.symm, fun e => h1.2 e.symm, fun e => h2.2 e.symm⟩
  refine ⟨M.own, ?_, M.tp, fun A1 q C1 e => ?_, ?_, fun q hq => ?_, M.vs, fun q hq => ?_⟩
  · have : (fun j => fstP j (A ++ p :: C)) = fun j => fstP j (A ++ C) := by funext j; exact fstP_ins (by omega)
    rw [this]; exact M.buf
  · rcases split3 e.symm with ⟨A2, e1, e2⟩ | ⟨e1, e2, e3⟩ | ⟨C', e1, e2⟩
    · have := M.chn A1 q (A2 ++ C) (by rw [e1]; simp)
      rw [e2, rowP_congr fun j _ => fstP_ins (A := A2) (p := p) (C := C) (j := j) (by omega)]
      exact this
    · rw [e2, e3]; exact ⟨o1, o2⟩
    · exact M.chn (A ++ C') q C1 (by rw [e1]; simp)
  · have := M.pw
    rw [List.pairwise_append] at this ⊢
    refine ⟨this.1, List.pairwise_cons.2 ⟨fun c hc => hap c (List.mem_append_right _ hc), this.2.1⟩, fun a haA b hb => ?_⟩
    rcases List.mem_cons.1 hb with e | e
    · rw [e]; exact apP_symm (hap a (List.mem_append_left _ haA))
    · exact this.2.2 a haA b e
  · rcases hmem hq with e | e
    · rw [e]
      have h1 := ha s (.inl rfl)
      exact ⟨fun e => h1.1 e.symm, fun e => h1.2 e.symm, hbc, fun e => (ha p.b (.inr (.inl e))).1 rfl, fun e => (ha p.c (.inr (.inl e))).2 rfl⟩
    · exact M.ps q e
  · rcases hmem hq with e | e
    · rw [e, hk]; exact ⟨Nat.zero_le _, Nat.zero_le _⟩
    · exact M.ht q e
/-- one height more -/
theorem HpM.up (M : HpM h s v K P n y) (b : Buf h1 53 1 v' (((List.range K).map fun j => fstP j P) ++ [.p0])) (tp : Top h1 v') (t1 : Stay (isOf v) h h1) (hv : ∀ i, isOf v' i → isOf v i ∨ B.val h.next ≤ B.val i)
    (o : Ev.Own h2 s [sv [], .i .i64 0, .b false, sv [], v', .i .i64 n, .i .i64 y]) (t2 : Stay (fun i => i = s) h1 h2) : HpM h2 s v' (K + 1) P n y := by
  have hlt := M.lt
  have fr : ∀ i, fpP s v P i → ¬ isOf v i → ¬ isOf v' i := fun i hi h1 h2 => (hv i h2).elim h1 fun h3 => by have := hlt i hi; omega
  have vs' : ¬ isOf v' s := fr s (.inl rfl) M.vs
  refine ⟨o, ?_, tp.stay t2 (fun i e => (b.own e).2) fun i e e2 => vs' (by rw [← e2]; exact e), fun A q C e => ?_, M.pw, fun q hq => ?_, vs', fun q hq => ⟨Nat.le_succ_of_le (M.ht q hq).1, (M.ht q hq).2⟩⟩
  · have := b.stay t2 fun i e e2 => vs' (by rw [← e2]; exact e)
    rw [List.range_succ, List.map_append, show (List.map (fun j => fstP j P) [K]) = [.p0] by
      show [fstP K P] = _
      rw [fstP_all fun q hq => (M.ht q hq).1]]
    exact this
  · have hq : q ∈ P := by rw [e]; simp
    have h3 := M.ps q hq
    have h4 := M.chn A q C e
    exact ⟨(h4.1.stay t1 h3.2.2.2.1).stay t2 h3.1, (h4.2.stay t1 h3.2.2.2.2).stay t2 h3.2.1⟩
  · have h3 := M.ps q hq
    exact ⟨h3.1, h3.2.1, h3.2.2.1, fr q.b (.inr (.inr ⟨q, hq, .inl rfl⟩)) h3.2.2.2.1, fr q.c (.inr (.inr ⟨q, hq, .inr rfl⟩)) h3.2.2.2.2⟩
/-- a place linked on one more height, the links' blocks given -/
theorem HpM.lnk {z : B → Prop} (M : HpM h s v K (A ++ p :: C) n y) (e1 : p'.e = p.e) (e2 : p'.b = p.b) (e3 : p'.c = p.c) (e4 : p'.m = p.m) (hk : p'.k ≤ K ∧ p'.k ≤ p.m) (t : Stay z h h')
    (zs : ¬ z s) (zb : ∀ q ∈ A ++ p :: C, ¬ z q.b) (zc : ∀ q ∈ C, ¬ z q.c) (op : Ev.Own h' p.c (rowP p' C))
    (hA : ∀ A1 q A2, A = A1 ++ q :: A2 → (¬ z q.c ∧ rowP q (A2 ++ p' :: C) = rowP q (A2 ++ p :: C)) ∨ Ev.Own h' q.c (rowP q (A2 ++ p' :: C)))
    (hb : Buf h' 53 1 v ((List.range K).map fun j => fstP j (A ++ p' :: C))) (tp : Top h' v) : HpM h' s v K (A ++ p' :: C) n y := by
  have hmem : ∀ {q}, q ∈ A ++ p' :: C → q = p' ∨ q ∈ A ++ p :: C := fun {q} hq => by
    rcases List.mem_append.1 hq with e | e
    · exact .inr (List.mem_append_left _ e)
    · rcases List.mem_cons.1 e with e | e
      · exact .inl e
      · exact .inr (List.mem_append_right _ (List.mem_cons_of_mem _ e))
  have hpm : p ∈ A ++ p :: C := by simp
  have epl : plC p' = plC p := by unfold plC; rw [e1, e3, e4]
  refine ⟨M.own.stay t zs, hb, tp, fun A1 q C1 e => ?_, ?_, fun q hq => ?_, M.vs, fun q hq => ?_⟩
  · rcases split3 e.symm with ⟨A2, g1, g2⟩ | ⟨g1, g2, g3⟩ | ⟨C', g1, g2⟩
    · have h3 := M.chn A1 q (A2 ++ p :: C) (by rw [g1]; simp)
      refine ⟨h3.1.stay t (zb q (by rw [g1]; simp)), ?_⟩
      rw [g2]
      rcases hA A1 q A2 g1 with ⟨g5, g6⟩ | g5
      · rw [g6]; exact h3.2.stay t g5
      · exact g5
    · rw [g2, g3, epl, e2, e3]
      exact ⟨(M.chn A p C rfl).1.stay t (zb p hpm), op⟩
    · have h3 := M.chn (A ++ p :: C') q C1 (by rw [g1]; simp)
      exact ⟨h3.1.stay t (zb q (by rw [g1]; simp)), h3.2.stay t (zc q (by rw [g1]; simp))⟩
  · have h3 := M.pw
    rw [List.pairwise_append, List.pairwise_cons] at h3 ⊢
    refine ⟨h3.1, ⟨fun c hc => ?_, h3.2.1.2⟩, fun a ha b hb => ?_⟩
    · have := h3.2.1.1 c hc
      unfold apP at this ⊢
      rw [e2, e3]; exact this
    · rcases List.mem_cons.1 hb with e | e
      · have := h3.2.2 a ha p (by simp)
        rw [e]
        unfold apP at this ⊢
        rw [e2, e3]; exact this
      · exact h3.2.2 a ha b (List.mem_cons_of_mem _ e)
  · rcases hmem hq with e | e
    · rw [e, e2, e3]; exact M.ps p hpm
    · exact M.ps q e
  · rcases hmem hq with e | e
    · rw [e]; exact ⟨hk.1, by rw [e4]; exact hk.2⟩
    · exact M.ht q e
end
end Go.Proofs.Ytcaoeoeeaaeieaa

set_option maxRecDepth 100000
set_option maxHeartbeats 8000000
set_option linter.all false
namespace Go.Proofs.Ytcaoeoeeaaeieaa
open Go Go.Ev
/-- append to a row of places -/
theorem ap_ah {h : H} {N : Nx} {w x z : V} {R : List V} (a : Ah h w R) (hx : ∀ k : Nat → List V → Bool, newCells 1 x h k = k 1 [z]) (hz : oneV z = true) (hf : B.val h.floor ≤ B.val h.next) (hb : R.length + 1 ≤ 1000000)
    (k : ∀ w' h', Ah h' w' (R ++ [z]) → Stay (isOf w) h h' → (∀ i, isOf w' i → isOf w i ∨ B.val h.next ≤ B.val i) → N.go Try.prog w' h') : AP Try.prog 53 1 w x h N := by
  have hz1 : allOne [z] = true := by show Bool.rec false true (oneV z) = true; rw [hz]
  rcases a with ⟨id, rfl, o⟩ | ⟨b, tp⟩
  · have hfl : flagB R.length = false := by
      cases hh : flagB R.length with
      | false => rfl
      | true => have := flagB_t hh; omega
    obtain ⟨h', a1, a2, a3, blk, b1, b2, b3, b4, b5, b6, b7⟩ := alloc_new 53 (R ++ [z]) h (by rw [List.length_append]; simp; omega)
    refine hm_of (v := .l h.next 0 0 (R.length + 1) ((R.length + 1) * 1) none) (h' := h') (fun k => ?_) (k _ h' (.inr ⟨?_, ?_⟩) (a2.mono fun _ _ e => e.elim) ?_)
    · rw [hx]
      show boolK (flagB R.length) _ (fun _ => boolK (Nat.ble (Nat.add R.length 1) R.length) (fun _ => appIn id 0 0 R.length R.length R.length 1 1 [z] h k) (fun _ => appOut 53 id 0 0 R.length R.length 1 1 [z] h k)) = _
      have e1 : Nat.ble (Nat.add R.length 1) R.length = false := by
        cases hx : Nat.ble (Nat.add R.length 1) R.length with
        | false => rfl
        | true => have := Nat.le_of_ble_eq_true hx; have h2 : R.length + 1 ≤ R.length := this; omega
      rw [hfl, e1]
      show appOut 53 id 0 0 R.length R.length 1 1 [z] h k = _
      unfold appOut
      have e2 : Nat.ble (Nat.add R.length 1) 1048576 = true := by rw [Nat.ble_eq]; show R.length + 1 ≤ _; omega
      have e3 : ∀ q : List V → Bool, loadZ R.length (Nat.mul R.length 1) h id 0 0 R.length q = q R := by
        intro q
        cases hR : R with
        | nil => rfl
        | cons r R' =>
          have hp : R.length = R'.length + 1 := by rw [hR]; rfl
          rw [← hR, loadZ_pos (by omega), show Nat.mul R.length 1 = R.length from Nat.mul_one _, loadN_row o.row rfl (by rw [hR]; simp) (by omega)]
      rw [e2, ifK_true, e3, app_eq, a1, fN_eq, fN_eq]
      rfl
    · refine .inr ⟨h.next, 0, R.length + 1, blk, by simp, by omega, by simp, by rw [a2.floor]; exact hf, by omega, b1, ⟨by omega, by omega⟩, b4, b5, b6, b7⟩
    · intro id' g off m' fin cap e
      cases e
      exact ⟨blk, b1, b3⟩
    · rintro i ⟨g, off, m', fin, cap, e⟩
      cases e; exact .inr (Nat.le_refl _)
  · exact AP.buf b hx hf (Nat.le_refl _) rfl hz1 (by show R.length + 1 ≤ _; omega) fun w' h' b' t hw tp' => k w' h' (.inr ⟨b', tp'⟩) t hw
section
variable {h : H} {s : B} {v : V} {K : Nat} {A C : List Pl} {p : Pl} {n y : Int}
/-- what stands ahead at the height that is next, and how it is written -/
theorem HpM.lrd (M : HpM h s v K (A ++ p :: C) n y) (hk : p.k < p.m) (hm : p.m ≤ K) (hK : K ≤ 65) : ∃ (b : B) (fin : Nat) (w : V) (R : List V), lasP p.k (.p s 0 0 7) A = .p b 0 0 fin ∧ Lst h w R ∧ p.k < R.length ∧ R.getD p.k .u = fstP p.k C ∧
    (∀ h1, Stay (fun i => i = p.c) h h1 → ∀ N, L1 Try.prog b 0 4 fin h1 N = N.go Try.prog w h1) ∧
    ∀ h1 N, Stay (fun i => i = p.c) h h1 → Ev.Own h1 p.c (rowP { p with k := p.k + 1 } C) →
      (∀ h', HpM h' s v K (A ++ { p with k := p.k + 1 } :: C) n y → Stay (fpP s v (A ++ p :: C)) h1 h' → N.go Try.prog (.tu []) h') → ST Try.prog 1 (.p (lid w) (lg w) (loff w + p.k) (lfin w)) (ptP p.b) h1 N := by
  have hpm : p ∈ A ++ p :: C := by simp
  have hps := M.ps p hpm
  have hpw := M.pw
  rw [List.pairwise_append, List.pairwise_cons] at hpw
  have hb1 : ∀ q ∈ A ++ p :: C, q.b ≠ p.c := fun q hq => by
    rcases List.mem_append.1 hq with e | e
    · exact (hpw.2.2 q e p (by simp)).2.1
    · rcases List.mem_cons.1 e with e | e
      · rw [e]; exact hps.2.2.1
      · exact fun e2 => (hpw.2.1.1 q e).2.2.1 e2.symm
  have hc1 : ∀ q ∈ C, q.c ≠ p.c := fun q hq e2 => (hpw.2.1.1 q hq).2.2.2 e2.symm
  have ha1 : ∀ q ∈ A, q.c ≠ p.c := fun q hq => (hpw.2.2 q hq p (by simp)).2.2.2
  have fne : ∀ {A2 : List Pl} {j}, j ≠ p.k → fstP j (A2 ++ { p with k := p.k + 1 } :: C) = fstP j (A2 ++ p :: C) := fun {A2 j} hj => fstP_ne rfl (by show j < p.k + 1 ↔ j < p.k; omega)
  rcases lasP_cases p.k (.p s 0 0 7) A with ⟨e1, e2⟩ | ⟨A1, q, A2, e1, e2, e3, e4⟩
  · have hat : fstP p.k (A ++ p :: C) = fstP p.k C := by rw [fstP_none e2, fstP_skip (Nat.le_refl _)]
    refine ⟨s, 7, v, _, e1, M.buf.lst, by simp; omega, by rw [range_at (by omega), hat], fun h1 t N => (M.own.stay t fun e => hps.2.1 e.symm).row.l1 (by simp) (by omega), fun h1 N t o k => ?_⟩
    have hb := M.buf.stay t fun i e e2 => hps.2.2.2.2 (by rw [← e2]; exact e)
    have tp := M.tp.stay t (fun i e => (M.buf.own e).2) fun i e e2 => hps.2.2.2.2 (by rw [← e2]; exact e)
    refine ST.buf (y := ptP p.b) hb tp rfl rfl (by simp; omega) (by omega) fun h2 b2 tp2 t2 => ?_
    refine k h2 (M.lnk (z := fun i => i = p.c ∨ isOf v i) rfl rfl rfl rfl ⟨by show p.k + 1 ≤ K; omega, hk⟩ ((t.mono fun i _ e => .inl e).trans (t2.mono fun i _ e => .inr e)) ?_ ?_ ?_ (o.stay t2 hps.2.2.2.2) (fun A1 q A2 g1 => ?_) ?_ tp2) (t2.mono fun i _ e => .inr (.inl e))
    · rintro (e | e)
      · exact hps.2.1 e.symm
      · exact M.vs e
    · rintro q hq (e | e)
      · exact hb1 q hq e
      · exact (M.ps q hq).2.2.2.1 e
    · rintro q hq (e | e)
      · exact hc1 q hq e
      · exact (M.ps q (by simp [hq])).2.2.2.2 e
    · refine .inl ⟨?_, rowP_congr fun j hj => fne ?_⟩
      · rintro (e | e)
        · exact ha1 q (by rw [g1]; simp) e
        · exact (M.ps q (by rw [g1]; simp)).2.2.2.2 e
      · have := e2 q (by rw [g1]; simp); omega
    · rw [range_set] at b2
      have : (fun j => fstP j (A ++ { p with k := p.k + 1 } :: C)) = fun i => if i = p.k then ptP p.b else fstP i (A ++ p :: C) := by
        funext j
        by_cases e : j = p.k
        · rw [if_pos e, e, fstP_none e2, fstP_cons (by show p.k < p.k + 1; omega)]
        · rw [if_neg e, fne e]
      rw [this]; exact b2
  · have hq : q ∈ A ++ p :: C := by rw [e1]; simp
    have hqA : q ∈ A := by rw [e1]; simp
    obtain ⟨o1, o2⟩ := M.chn A1 q (A2 ++ p :: C) (by rw [e1]; simp)
    have hqk := M.ht q hq
    have hl := o2.lst (some q.m)
    rw [rowP_len hqk.2] at hl
    have hat : fstP p.k (A2 ++ p :: C) = fstP p.k C := by rw [fstP_none e2, fstP_skip (Nat.le_refl _)]
    have hqs := M.ps q hq
    refine ⟨q.b, 5, _, _, e4, hl, by rw [rowP_len hqk.2]; omega, by rw [rowP_at e3, hat], fun h1 t N => (o1.stay t (hb1 q hq)).row.l1 (by unfold plC entC; simp) (by omega), fun h1 N t o k => ?_⟩
    have o2' := o2.stay t (ha1 q hqA)
    show ST Try.prog 1 (.p q.c 0 (0 + p.k) q.m) (ptP p.b) h1 N
    rw [Nat.zero_add]
    refine ST.own (y := ptP p.b) o2' rfl rfl (by omega) (Nat.lt_of_lt_of_le (Nat.lt_of_lt_of_le e3 (Nat.le_trans hqk.1 hK)) (by decide)) fun h2 o3 t2 => ?_
    have hpwA := hpw.1
    rw [e1, List.pairwise_append, List.pairwise_cons] at hpwA
    have hqb : ∀ q' ∈ A ++ p :: C, q'.b ≠ q.c := fun q' hq' => by
      rcases List.mem_append.1 hq' with e | e
      · rw [e1] at e
        rcases List.mem_append.1 e with e | e
        · exact (hpwA.2.2 q' e q (by simp)).2.1
        · rcases List.mem_cons.1 e with e | e
          · rw [e]; exact hqs.2.2.1
          · exact fun e5 => (hpwA.2.1.1 q' e).2.2.1 e5.symm
      · exact fun e5 => (hpw.2.2 q hqA q' e).2.2.1 e5.symm
    have hqc : ∀ q' ∈ C, q'.c ≠ q.c := fun q' hq' e5 => (hpw.2.2 q hqA q' (List.mem_cons_of_mem _ hq')).2.2.2 e5.symm
    refine k h2 (M.lnk (z := fun i => i = p.c ∨ i = q.c) rfl rfl rfl rfl ⟨by show p.k + 1 ≤ K; omega, hk⟩ ((t.mono fun i _ e => .inl e).trans (t2.mono fun i _ e => .inr e)) ?_ ?_ ?_ (o.stay t2 fun e => ha1 q hqA e.symm) (fun A3 q' A4 g1 => ?_) ?_ ?_) (t2.mono fun i _ e => .inr (.inr ⟨q, hq, .inr e⟩))
    · rintro (e | e)
      · exact hps.2.1 e.symm
      · exact hqs.2.1 e.symm
    · rintro q' hq' (e | e)
      · exact hb1 q' hq' e
      · exact hqb q' hq' e
    · rintro q' hq' (e | e)
      · exact hc1 q' hq' e
      · exact hqc q' hq' e
    · have hA3 : q' ∈ A := by rw [g1]; simp
      rcases split3 (g1.symm.trans e1) with ⟨A5, g2, g3⟩ | ⟨g2, g3, g4⟩ | ⟨C', g2, g3⟩
      · refine .inl ⟨?_, ?_⟩
        · rintro (e | e)
          · exact ha1 q' hA3 e
          · exact (hpwA.2.2 q' (by rw [g2]; simp) q (by simp)).2.2.2 e
        · have hx : ∃ a ∈ A4, p.k < a.k := ⟨q, by rw [g3]; simp, e3⟩
          refine rowP_congr fun j hj => ?_
          by_cases e : j = p.k
          · rw [e]; exact fstP_some hx _ _
          · exact fne e
      · right
        rw [g3, g4]
        rw [rowP_set e3] at o3
        have : rowP q (A2 ++ { p with k := p.k + 1 } :: C) = ((List.range q.k).map fun j => if j = p.k then ptP p.b else fstP j (A2 ++ p :: C)) ++ List.replicate (q.m - q.k) .p0 := by
          unfold rowP
          congr 1
          refine List.map_congr_left fun j hj => ?_
          by_cases e : j = p.k
          · rw [if_pos e, e, fstP_none e2, fstP_cons (by show p.k < p.k + 1; omega)]
          · rw [if_neg e, fne e]
        rw [this]; exact o3
      · refine .inl ⟨?_, rowP_congr fun j hj => fne ?_⟩
        · rintro (e | e)
          · exact ha1 q' hA3 e
          · exact (hpwA.2.1.1 q' (by rw [g2]; simp)).2.2.2 e.symm
        · have := e2 q' (by rw [g2]; simp); omega
    · have hx : ∃ a ∈ A, p.k < a.k := ⟨q, hqA, e3⟩
      have : (fun j => fstP j (A ++ { p with k := p.k + 1 } :: C)) = fun j => fstP j (A ++ p :: C) := by
        funext j
        by_cases e : j = p.k
        · rw [e]; exact fstP_some hx _ _
        · exact fne e
      rw [this]
      exact (M.buf.stay t fun i e e5 => hps.2.2.2.2 (by rw [← e5]; exact e)).stay t2 fun i e e5 => hqs.2.2.2.2 (by rw [← e5]; exact e)
    · exact (M.tp.stay t (fun i e => (M.buf.own e).2) fun i e e5 => hps.2.2.2.2 (by rw [← e5]; exact e)).stay t2 (fun i e => Nat.lt_of_lt_of_le (M.buf.own e).2 t.next) fun i e e5 => hqs.2.2.2.2 (by rw [← e5]; exact e)
end
end Go.Proofs.Ytcaoeoeeaaeieaa

set_option maxRecDepth 100000
set_option maxHeartbeats 8000000
set_option linter.all false
namespace Go.Proofs.Ytcaoeoeeaaeieaa
open Go Go.Ev
theorem stay_past {p q : B → Prop} {a b c : H} (x : Stay p a b) (y : Stay q b c) (h : ∀ i, q i → p i ∨ B.val a.next ≤ B.val i) : Stay p a c :=
  ⟨y.floor.trans x.floor, Nat.le_trans x.next y.next, fun i h1 h2 => (y.get i (Nat.lt_of_lt_of_le h1 x.next) fun hq => (h i hq).elim h2 fun h3 => by omega).trans (x.get i h1 h2)⟩
theorem Ah.stay {h h' : H} {w : V} {R : List V} {q : B → Prop} (a : Ah h w R) (t : Stay q h h') (hq : ∀ i, isOf w i → ¬ q i) : Ah h' w R := by
  rcases a with ⟨id, e, o⟩ | ⟨b, tp⟩
  · exact .inl ⟨id, e, o.stay t (hq id ⟨_, _, _, _, _, e⟩)⟩
  · exact .inr ⟨b.stay t hq, tp.stay t (fun i e => (b.own e).2) hq⟩
theorem Ah.lt {h : H} {w : V} {R : List V} (a : Ah h w R) {i : B} (hi : isOf w i) : B.val i < B.val h.next := by
  rcases a with ⟨id, e, o⟩ | ⟨b, tp⟩
  · obtain ⟨_, _, _, _, _, e2⟩ := hi
    rw [e] at e2; cases e2; exact own_lt' o
  · exact (b.own hi).2
theorem fstP_cells (j : Nat) (C : List Pl) : cells (fstP j C) = [fstP j C] ∧ oneV (fstP j C) = true := by
  rcases fstP_cases j C with ⟨e, _⟩ | ⟨_, q, _, _, _, _, e⟩
  · rw [e]; exact ⟨rfl, rfl⟩
  · rw [e]; exact ⟨rfl, rfl⟩
theorem fp_p0 {P : Program} {off : Nat} {ps : List Pt} {t : F} {z : List V} {e : Option (Nat × Nat)} {h : H} {N : Nx} : FP P off 1 .p0 ps t z e h N = if off + 1 ≤ z.length then FL P ps t (z.take off ++ (.p0 :: z.drop (off + 1))) e h N else FPJ P off 1 .p0 ps t z e h N := fp_at (cs := [.p0]) rfl rfl rfl
theorem fpP_k {s : B} {v : V} {A C : List Pl} {p p' : Pl} (e2 : p'.b = p.b) (e3 : p'.c = p.c) {i : B} : fpP s v (A ++ p' :: C) i ↔ fpP s v (A ++ p :: C) i := by
  unfold fpP
  have : (∃ q ∈ A ++ p' :: C, i = q.b ∨ i = q.c) ↔ ∃ q ∈ A ++ p :: C, i = q.b ∨ i = q.c := by
    simp only [List.mem_append, List.mem_cons]
    constructor
    · rintro ⟨q, h1 | h1 | h1, h2⟩
      · exact ⟨q, .inl h1, h2⟩
      · rw [h1, e2, e3] at h2; exact ⟨p, .inr (.inl rfl), h2⟩
      · exact ⟨q, .inr (.inr h1), h2⟩
    · rintro ⟨q, h1 | h1 | h1, h2⟩
      · exact ⟨q, .inl h1, h2⟩
      · rw [h1, ← e2, ← e3] at h2; exact ⟨p', .inr (.inl rfl), h2⟩
      · exact ⟨q, .inr (.inr h1), h2⟩
  rw [this]
theorem fpP_ins {s : B} {v : V} {A C : List Pl} {p : Pl} {i : B} : fpP s v (A ++ p :: C) i ↔ fpP s v (A ++ C) i ∨ i = p.b ∨ i = p.c := by
  unfold fpP
  simp only [List.mem_append, List.mem_cons]
  constructor
  · rintro (h | h | ⟨q, h1 | h1 | h1, h2⟩)
    · exact .inl (.inl h)
    · exact .inl (.inr (.inl h))
    · exact .inl (.inr (.inr ⟨q, .inl h1, h2⟩))
    · rw [h1] at h2; exact .inr h2
    · exact .inl (.inr (.inr ⟨q, .inr h1, h2⟩))
  · rintro ((h | h | ⟨q, h1 | h1, h2⟩) | h)
    · exact .inl h
    · exact .inr (.inl h)
    · exact .inr (.inr ⟨q, .inl h1, h2⟩)
    · exact .inr (.inr ⟨q, .inr (.inr h1), h2⟩)
    · exact .inr (.inr ⟨p, .inr (.inl rfl), h⟩)
theorem link_ok {h : H} {s : B} {v w : V} {K : Nat} {A C : List Pl} {n y : Int} {x : Ent} (M : HpM h s v K (A ++ C) n y) (hk : x.key.length ≤ 1000000) (a : Ah h w ((List.range K).map fun j => lasP j (.p s 0 0 7) A)) (hw : ∀ i, isOf w i → ¬ fpP s v (A ++ C) i) (hlw : ∀ i, isOf w i → B.val i < B.val h.next) (hK : K ≤ 65) (hf : B.val h.floor ≤ B.val h.next) :
    FnOk Try.prog 27 [.p s 0 0 7, .a (entC x), w] h fun r h' => ∃ v' K' p, p.e = x ∧ 1 ≤ p.k ∧ p.k ≤ 65 ∧ p.m = p.k ∧ K' ≤ 65 ∧ HpM h' s v' K' (A ++ p :: C) n y ∧ (∀ i, fpP s v' (A ++ p :: C) i → fpP s v (A ++ C) i ∨ B.val h.next ≤ B.val i) ∧ Stay (fun i => fpP s v (A ++ C) i ∨ isOf w i) h h' := by
  obtain ⟨xk, xq, xd, xv⟩ := x
  unfold entC
  refine fn_go c27 (by intro hb; cases hb) (by simp) (by simp) fun Q hQ => ?_
  simp only [slotsF, Nat.reduceAdd]
  repeat' (first
    | refine St.h ?_
    | simp (disch := first | omega | (simp only [lnv]; omega)) only [wlk, ↓get_put', ↓reduceIte, seval]
    | (with_reducible (first | apply cd_split | apply gd_split)) <;> (intro hc; (try simp only [hcn] at hc); (try simp only [hc]); (try simp only [hcl] at hc); try omega))
  refine AL.own (by simp) hf fun h1 s1 n1 o1 => ?_
  have hf1 := s1.fl hf
  have M1 := M.grow s1
  have or1 := o1.row
  repeat' (first
    | refine St.h ?_
    | simp (disch := first | omega | (simp only [lnv]; omega)) only [wlk, ↓get_put', ↓reduceIte, seval, or1.ln]
    | (with_reducible (first | apply cd_split | apply gd_split)) <;> (intro hc; (try simp only [hcn] at hc); (try simp only [hc]); (try simp only [hcl] at hc); try omega))
  refine CL.mk (heightOf_ok (e := ⟨xk, xq, xd, xv⟩) hk (re_fl _)) ?_
  rintro _ h2' ⟨kk, k1, k2, rfl, s2⟩
  have s2 := s2.unfloor
  repeat' (first
    | refine St.h ?_
    | simp (disch := first | omega | (simp only [lnv]; omega)) only [wlk, ↓get_put', ↓reduceIte, seval]
    | (with_reducible (first | apply cd_split | apply gd_split)) <;> (intro hc; (try simp only [hcn] at hc); (try simp only [hc]); (try simp only [hcl] at hc); try omega))
  generalize unFloor h1 h2' = h2 at *
  have hf2 := s2.fl hf1
  refine AL.ownU (by rw [repL_one]; simp; omega) hf2 fun h3 s3 o3 => ?_
  have hf3 := s3.fl hf2
  repeat' (first
    | refine St.h ?_
    | simp (disch := first | omega | (simp only [lnv]; omega)) only [wlk, ↓get_put', ↓reduceIte, seval]
    | (with_reducible (first | apply cd_split | apply gd_split)) <;> (intro hc; (try simp only [hcn] at hc); (try simp only [hc]); (try simp only [hcl] at hc); try omega))
  refine AL.own (by simp) hf3 fun h4 s4 n4 o4 => ?_
  have hf4 := s4.fl hf3
  have n3 := own_lt' o3
  have b3 : B.val h2.next < B.val h3.next := n3
  have b2 := Nat.le_trans s1.next s2.next
  have s03 := ((s1.trans s2).trans s3)
  have s04 := s03.trans s4
  have M4 : HpM h4 s v K (A ++ (⟨⟨xk, xq, xd, xv⟩, h3.next, h2.next, 0, kk⟩ : Pl) :: C) n y := by
    refine (M.grow s04).ins o4 ?_ rfl (fun i hi => ?_) (fun e => by have : h3.next = h2.next := e; rw [this] at b3; omega)
    · have : rowP ⟨⟨xk, xq, xd, xv⟩, h3.next, h2.next, 0, kk⟩ C = repL [V.p0] kk := by rw [repL_one]; rfl
      rw [this]
      exact o3.stay s4 fun e => e
    · have := M.lt i hi
      exact ⟨fun e => by have e : i = h3.next := e; rw [e] at this; omega, fun e => by have e : i = h2.next := e; rw [e] at this; omega⟩
  have a4 := a.stay s04 fun _ _ e => e
  generalize hpb : h3.next = pb at *
  generalize hpc : h2.next = pc at *
  have hbf : B.val h.next ≤ B.val pb ∧ B.val h.next ≤ B.val pc := ⟨by omega, by omega⟩
  have hbl : B.val pb < B.val h4.next ∧ B.val pc < B.val h4.next := ⟨by omega, by omega⟩
  repeat' (first
    | refine St.h ?_
    | simp (disch := first | omega | (simp only [lnv]; omega)) only [wlk, ↓get_put', ↓reduceIte, seval]
    | (with_reducible (first | apply cd_split | apply gd_split)) <;> (intro hc; (try simp only [hcn] at hc); (try simp only [hc]); (try simp only [hcl] at hc); try omega))
  refine Ok.lp (fun m t g => ∃ (K2 : Nat) (v2 w2 : V), m = kk - K2 ∧ K2 ≤ 65 ∧ get 0 t = .p s 0 0 7 ∧ get 2 t = w2 ∧ get 6 t = .p pb 0 0 5 ∧ HpM g s v2 K2 (A ++ (⟨⟨xk, xq, xd, xv⟩, pb, pc, 0, kk⟩ : Pl) :: C) n y ∧ Ah g w2 ((List.range K2).map fun j => lasP j (.p s 0 0 7) A) ∧ (∀ i, isOf v2 i → isOf v i ∨ B.val h4.next ≤ B.val i) ∧ (∀ i, isOf w2 i → (isOf w i ∨ B.val h4.next ≤ B.val i) ∧ B.val i < B.val g.next ∧ ¬ isOf v2 i) ∧ Stay (fun i => fpP s v (A ++ C) i ∨ isOf w i) h g ∧ B.val h4.next ≤ B.val g.next) (kk - K) ?_ ?_
  · simp (disch := first | omega | (simp only [lnv]; omega)) only [wlk, ↓get_put', ↓reduceIte, seval]
    refine ⟨K, v, w, rfl, hK, ?_, ?_, ?_, M4, a4, fun i e => .inl e, fun i e => ⟨.inl e, Nat.lt_of_lt_of_le (hlw i e) s04.next, fun e2 => hw i e (.inr (.inl e2))⟩, s04.mono fun _ _ e => e.elim, Nat.le_refl _⟩ <;> first | trivial | rfl
  rintro I hI m t g ⟨K2, v2, w2, rfl, hK2, f0, f2, f6, Mg, ag, hv2, hw2, st, hng⟩
  have hfg := st.fl hf
  have hln := fun g N => Mg.buf.lst.ln (P := Try.prog) (h := g) (N := N)
  rw [List.length_map, List.length_range] at hln
  have og := (Mg.chn A _ C rfl).1
  unfold plC entC at og
  have ogr := og.row
  have ogl := fun (g : H) (N : Nx) => gLen_l (P := Try.prog) (h := g) (N := N) (id := pc) (g := 0) (off := 0) (len := kk) (fin := kk) (cap := some kk)
  have osr := Mg.own.row
  have ngn : B.val h.next ≤ B.val g.next := st.next
  have hd : ∀ i, isOf w2 i → ∀ v', ¬ isOf v' i → ¬ fpP s v' (A ++ (⟨⟨xk, xq, xd, xv⟩, pb, pc, 0, kk⟩ : Pl) :: C) i := by
    intro i e v' hv' e1
    have key : fpP s v (A ++ (⟨⟨xk, xq, xd, xv⟩, pb, pc, 0, kk⟩ : Pl) :: C) i := by
      rcases e1 with e1 | e1 | e1
      · exact .inl e1
      · exact absurd e1 hv'
      · exact .inr (.inr e1)
    rcases (hw2 i e).1 with h9 | h9
    · have h10 := hlw i h9
      rcases fpP_ins.1 key with k | k | k
      · exact hw i h9 k
      · have k : i = pb := k
        rw [k] at h10; omega
      · have k : i = pc := k
        rw [k] at h10; omega
    · have := M4.lt i key; omega
  by_cases hlt : K2 < kk
  · repeat' (first
      | refine St.h ?_
      | simp (disch := first | omega | (simp only [lnv]; omega)) only [wlk, ↓get_put', ↓reduceIte, seval, f0, f2, f6, osr.l1, hln, ogr.l1, ogl, fp_p0]
      | (with_reducible (first | apply cd_split | apply gd_split)) <;> (intro hc; (try simp only [hcn] at hc); (try simp only [hc]); (try simp only [hcl] at hc); try omega))
    refine AL.own (by simp) hfg fun g1 t1 m1 q1 => ?_
    have M1 := Mg.grow t1
    have a1 := ag.stay t1 fun _ _ e => e
    have hfg1 := t1.fl hfg
    repeat' (first
      | refine St.h ?_
      | simp (disch := first | omega | (simp only [lnv]; omega)) only [wlk, ↓get_put', ↓reduceIte, seval, f0, f2, f6]
      | (with_reducible (first | apply cd_split | apply gd_split)) <;> (intro hc; (try simp only [hcn] at hc); (try simp only [hc]); (try simp only [hcl] at hc); try omega))
    refine AP.buf (vs := [.p0]) (cnt := 1) M1.buf (new_row q1.row rfl (Nat.le_refl _) (by omega) (by show 1 ≤ 1; omega)) hfg1 (by omega) rfl rfl (by simp; omega) fun v3 g2 b2 t2 hv3 tp2 => ?_
    obtain ⟨c1, c2, _⟩ := buf_cells b2
    have hfg2 := t2.fl hfg1
    have o2 := M1.own.stay t2 M1.vs
    repeat' (first
      | refine St.h ?_
      | simp (disch := first | omega | (simp only [lnv]; omega)) only [wlk, ↓get_put', ↓reduceIte, seval, f0, f2, f6]
      | (with_reducible (first | apply cd_split | apply gd_split)) <;> (intro hc; (try simp only [hcn] at hc); (try simp only [hc]); (try simp only [hcl] at hc); try omega))
    refine ST.own o2 c1 c2 (by omega) (by omega) fun g3 o3 t3 => ?_
    have M3 := M1.up b2 tp2 t2 hv3 o3 t3
    have hfg3 := t3.fl hfg2
    have nw : ∀ i, isOf w2 i → ¬ isOf v2 i ∧ i ≠ s := fun i e => by
      have h8 := hw2 i e
      refine ⟨h8.2.2, fun e2 => ?_⟩
      rcases h8.1 with h9 | h9
      · exact hw i h9 (.inl e2)
      · have := own_lt' (M4.own); rw [← e2] at this; omega
    have a3 := (a1.stay t2 fun i e => (nw i e).1).stay t3 fun i e => (nw i e).2
    repeat' (first
      | refine St.h ?_
      | simp (disch := first | omega | (simp only [lnv]; omega)) only [wlk, ↓get_put', ↓reduceIte, seval, f0, f2, f6]
      | (with_reducible (first | apply cd_split | apply gd_split)) <;> (intro hc; (try simp only [hcn] at hc); (try simp only [hc]); (try simp only [hcl] at hc); try omega))
    refine AL.own (by simp) hfg3 fun g4 t4 m4 q4 => ?_
    have M4' := M3.grow t4
    have a4' := a3.stay t4 fun _ _ e => e
    have hfg4 := t4.fl hfg3
    repeat' (first
      | refine St.h ?_
      | simp (disch := first | omega | (simp only [lnv]; omega)) only [wlk, ↓get_put', ↓reduceIte, seval, f0, f2, f6]
      | (with_reducible (first | apply cd_split | apply gd_split)) <;> (intro hc; (try simp only [hcn] at hc); (try simp only [hc]); (try simp only [hcl] at hc); try omega))
    refine ap_ah (z := .p s 0 0 7) a4' (new_row q4.row rfl (Nat.le_refl _) (by omega) (by show 1 ≤ 1; omega)) rfl hfg4 (by simp; omega) fun w3 g5 a5 t5 hw3 => ?_
    have nx := t1.next
    have nx2 := t2.next
    have nx3 := t3.next
    have nx4 := t4.next
    have nx5 := t5.next
    repeat' (first
      | refine St.h ?_
      | simp (disch := first | omega | (simp only [lnv]; omega)) only [wlk, ↓get_put', ↓reduceIte, seval, f0, f2, f6]
      | (with_reducible (first | apply cd_split | apply gd_split)) <;> (intro hc; (try simp only [hcn] at hc); (try simp only [hc]); (try simp only [hcl] at hc); try omega))
    have nv3 : ∀ i, isOf w2 i → ¬ isOf v3 i := fun i e e2 => by
      rcases hv3 i e2 with h9 | h9
      · exact (nw i e).1 h9
      · have := (hw2 i e).2.1; omega
    have M5 := M4'.stay t5 fun i e e2 => hd i e2 v3 (nv3 i e2) e
    have hlas : lasP K2 (.p s 0 0 7) A = .p s 0 0 7 := lasP_none fun q hq => (Mg.ht q (by simp [hq])).1
    have hrow : ((List.range (K2 + 1)).map fun j => lasP j (.p s 0 0 7) A) = ((List.range K2).map fun j => lasP j (.p s 0 0 7) A) ++ [.p s 0 0 7] := by
      rw [List.range_succ, List.map_append]
      show _ ++ [lasP K2 (.p s 0 0 7) A] = _
      rw [hlas]
    have n5 : B.val g1.next ≤ B.val g4.next := by omega
    have stz : Stay (fun i => fpP s v (A ++ C) i ∨ isOf w i) h g5 := by
      refine stay_past (stay_past (stay_past (stay_past (stay_past st t1 fun _ e => e.elim) t2 fun i e => ?_) t3 fun i e => .inl (.inl (.inl e))) t4 fun _ e => e.elim) t5 fun i e => ?_
      · rcases hv2 i e with h9 | h9
        · exact .inl (.inl (.inr (.inl h9)))
        · exact .inr (Nat.le_trans s04.next h9)
      · rcases (hw2 i e).1 with h9 | h9
        · exact .inl (.inr h9)
        · exact .inr (Nat.le_trans s04.next h9)
    refine lp_next hI (kk - (K2 + 1)) (by omega) ⟨K2 + 1, v3, w3, rfl, by omega, ?_, ?_, ?_, M5, by rw [hrow]; exact a5, fun i e => ?_, fun i e => ?_, stz, by omega⟩
    · simp (disch := first | omega | (simp only [lnv]; omega)) only [wlk, ↓get_put', ↓reduceIte, seval, f0]
    · simp (disch := first | omega | (simp only [lnv]; omega)) only [wlk, ↓get_put', ↓reduceIte, seval]
    · simp (disch := first | omega | (simp only [lnv]; omega)) only [wlk, ↓get_put', ↓reduceIte, seval, f6]
    · rcases hv3 i e with h9 | h9
      · exact hv2 i h9
      · exact .inr (by omega)
    · rcases hw3 i e with h9 | h9
      · exact ⟨(hw2 i h9).1, a5.lt e, nv3 i h9⟩
      · refine ⟨.inr (by omega), a5.lt e, fun e2 => ?_⟩
        have := (b2.own e2).2
        omega
  · have hkK : kk ≤ K2 := by omega
    repeat' (first
      | refine St.h ?_
      | simp (disch := first | omega | (simp only [lnv]; omega)) only [wlk, ↓get_put', ↓reduceIte, seval, f0, f2, f6, osr.l1, hln, ogr.l1, ogl]
      | (with_reducible (first | apply cd_split | apply gd_split)) <;> (intro hc; (try simp only [hcn] at hc); (try simp only [hc]); (try simp only [hcl] at hc); try omega))
    refine Ok.lp (fun m t g' => ∃ (i : Nat), m = kk - i ∧ i ≤ kk ∧ get 2 t = w2 ∧ get 6 t = .p pb 0 0 5 ∧ get 47 t = .i .i64 (kk : Int) ∧ get 48 t = .i .i64 (i : Int) ∧ HpM g' s v2 K2 (A ++ (⟨⟨xk, xq, xd, xv⟩, pb, pc, i, kk⟩ : Pl) :: C) n y ∧ Ah g' w2 ((List.range K2).map fun j => lasP j (.p s 0 0 7) A) ∧ Stay (fun i => fpP s v (A ++ C) i ∨ isOf w i) h g') kk ?_ ?_
    · simp (disch := first | omega | (simp only [lnv]; omega)) only [wlk, ↓get_put', ↓reduceIte, seval, f2, f6]
      refine ⟨0, rfl, Nat.zero_le _, ?_, ?_, ?_, ?_, Mg, ag, st⟩ <;> first | trivial | rfl
    clear f0 f2 f6 og ogr ogl osr hln
    rintro J hJ m t g' ⟨i, rfl, hi, f2, f6, f47, f48, M', a', st'⟩
    have og := (M'.chn A _ C rfl).1
    have oc := (M'.chn A _ C rfl).2
    unfold plC entC at og
    have ogr := og.row
    by_cases hik : i < kk
    · obtain ⟨b, fin, w', R, e1, e2, e3, e4, e5, e6⟩ := M'.lrd hik hkK hK2
      have e7 : ((List.range K2).map fun j => lasP j (.p s 0 0 7) A).getD i .u = .p b 0 0 fin := (range_at (by omega)).trans e1
      have hl := a'.lst
      have hll : ((List.range K2).map fun j => lasP j (.p s 0 0 7) A).length = K2 := by simp
      have e5' := e5 g' (Stay.refl _ _)
      have e4' : R.getD i .u = fstP i C := e4
      have e3' : i < R.length := e3
      repeat' (first
        | refine St.h ?_
        | simp (disch := first | omega | (simp only [lnv]; omega)) only [wlk, ↓get_put', ↓reduceIte, seval, f2, f6, f47, f48, ogr.l1, hl.ix, hl.ld, e7, e5', e2.ix, e2.ld, e4', Int.toNat_natCast]
        | (with_reducible (first | apply cd_split | apply gd_split)) <;> (intro hc; (try simp only [hcn] at hc); (try simp only [hc]); (try simp only [hcl] at hc); try omega))
      obtain ⟨fc1, fc2⟩ := fstP_cells i C
      refine ST.own oc fc1 fc2 (by omega) (by omega) fun g1 o1' t1 => ?_
      have hrow := rowP_up (p := ⟨⟨xk, xq, xd, xv⟩, pb, pc, i, kk⟩) (p' := ⟨⟨xk, xq, xd, xv⟩, pb, pc, i + 1, kk⟩) (L := C) hik rfl rfl
      have hrow : (rowP ⟨⟨xk, xq, xd, xv⟩, pb, pc, i, kk⟩ C).set i (fstP i C) = rowP ⟨⟨xk, xq, xd, xv⟩, pb, pc, i + 1, kk⟩ C := hrow
      rw [hrow] at o1'
      have hpc : fpP s v2 (A ++ (⟨⟨xk, xq, xd, xv⟩, pb, pc, i, kk⟩ : Pl) :: C) pc := fpP_ins.2 (.inr (.inr rfl))
      have hnf : ∀ q, isOf w2 q → ¬ fpP s v2 (A ++ (⟨⟨xk, xq, xd, xv⟩, pb, pc, i, kk⟩ : Pl) :: C) q := fun q e e2 => hd q e v2 (hw2 q e).2.2 ((fpP_k (p := ⟨⟨xk, xq, xd, xv⟩, pb, pc, i, kk⟩) (p' := ⟨⟨xk, xq, xd, xv⟩, pb, pc, 0, kk⟩) rfl rfl).2 e2)
      have a1 := a'.stay t1 fun q e e2 => hnf q e (by rw [e2]; exact hpc)
      have e51 := e5 g1 t1
      have og1 := og.stay t1 (M'.ps _ (by simp)).2.2.1
      have og1r := og1.row
      have hl1 := a1.lst
      repeat' (first
        | refine St.h ?_
        | simp (disch := first | omega | (simp only [lnv]; omega)) only [wlk, ↓get_put', ↓reduceIte, seval, f2, f6, f47, f48, og1r.l1, hl1.ix, hl1.ld, e7, e51, e2.ix, Int.toNat_natCast]
        | (with_reducible (first | apply cd_split | apply gd_split)) <;> (intro hc; (try simp only [hcn] at hc); (try simp only [hc]); (try simp only [hcl] at hc); try omega))
      refine e6 g1 _ t1 o1' fun g2 M2 t2 => ?_
      have fz : ∀ q, fpP s v2 (A ++ (⟨⟨xk, xq, xd, xv⟩, pb, pc, i, kk⟩ : Pl) :: C) q → (fpP s v (A ++ C) q ∨ isOf w q) ∨ B.val h.next ≤ B.val q := fun q e => by
        rcases fpP_ins.1 e with (e | e | e) | e | e
        · exact .inl (.inl (.inl e))
        · rcases hv2 q e with h9 | h9
          · exact .inl (.inl (.inr (.inl h9)))
          · exact .inr (Nat.le_trans s04.next h9)
        · exact .inl (.inl (.inr (.inr e)))
        · have e : q = pb := e
          rw [e]; exact .inr hbf.1
        · have e : q = pc := e
          rw [e]; exact .inr hbf.2
      have st2 := stay_past (stay_past st' t1 fun q e => fz q (by rw [e]; exact hpc)) t2 fz
      repeat' (first
        | refine St.h ?_
        | simp (disch := first | omega | (simp only [lnv]; omega)) only [wlk, ↓get_put', ↓reduceIte, seval, f2, f6, f47, f48]
        | (with_reducible (first | apply cd_split | apply gd_split)) <;> (intro hc; (try simp only [hcn] at hc); (try simp only [hc]); (try simp only [hcl] at hc); try omega))
      refine lp_next hJ (kk - (i + 1)) (by omega) ⟨i + 1, rfl, by omega, ?_, ?_, ?_, ?_, M2, a1.stay t2 hnf, st2⟩
      · simp (disch := first | omega | (simp only [lnv]; omega)) only [wlk, ↓get_put', ↓reduceIte, seval, f2]
      · simp (disch := first | omega | (simp only [lnv]; omega)) only [wlk, ↓get_put', ↓reduceIte, seval, f6]
      · simp (disch := first | omega | (simp only [lnv]; omega)) only [wlk, ↓get_put', ↓reduceIte, seval, f47]
      · simp (disch := first | omega | (simp only [lnv]; omega)) only [wlk, ↓get_put', ↓reduceIte, seval]; rfl
    · obtain rfl : i = kk := by omega
      repeat' (first
        | refine St.h ?_
        | simp (disch := first | omega | (simp only [lnv]; omega)) only [wlk, ↓get_put', ↓reduceIte, seval, f2, f6, f47, f48]
        | (with_reducible (first | apply cd_split | apply gd_split)) <;> (intro hc; (try simp only [hcn] at hc); (try simp only [hc]); (try simp only [hcl] at hc); try omega))
      subst hQ
      refine ⟨v2, K2, ⟨⟨xk, xq, xd, xv⟩, pb, pc, i, i⟩, rfl, k1, k2, rfl, hK2, M', fun q e => ?_, st'⟩
      rcases fpP_ins.1 e with (e | e | e) | e | e
      · exact .inl (.inl e)
      · rcases hv2 q e with h9 | h9
        · exact .inl (.inr (.inl h9))
        · exact .inr (Nat.le_trans s04.next h9)
      · exact .inl (.inr (.inr e))
      · have e : q = pb := e
        rw [e]; exact .inr hbf.1
      · have e : q = pc := e
        rw [e]; exact .inr hbf.2
end Go.Proofs.Ytcaoeoeeaaeieaa

set_option maxRecDepth 1000000
set_option linter.all false
namespace Go.Proofs.Ytcaoeoeeaaeieaa
open Go Go.Ev
noncomputable abbrev s9_0 : CC := (CC.cond (tm 7) CC.skip (CC.exit 0))
noncomputable abbrev s9_1 : CC := (CC.seq (CC.region [(wB 4 (doMove (tm 3))), (wB 5 (doMove (tm 0))), (wB 6 (doLen (tm 5))), (wB 7 (bin2 fLss (tm 4) (tm 6)))]) s9_0)
noncomputable abbrev s9_2 : CC := (CC.seq (CC.region [(wB 2 (doMove (O.c (V.b Bool.false))))]) CC.ret)
noncomputable abbrev s9_3 : CC := (CC.cond (tm 25) s9_2 CC.skip)
noncomputable abbrev s9_4 : CC := (CC.seq (CC.region [(wB 10 (doMove (tm 0))), (wB 11 (doMove (tm 3))), (wB 12 (doIndexAddr 4 (tm 10) (tm 11))), (wB 13 (doFieldAddr 0 (tm 12))), (wB 14 (doLoad (tm 13))), (wB 15 (doLenS (tm 14))), (wB 16 (bin2 fGtr (tm 15) (oN 20))), (wB 17 (doMove (tm 16))), (wG 17 false 18 (doMove (tm 0))), (wG 17 false 19 (doMove (tm 3))), (wG 17 false 20 (doIndexAddr 4 (tm 18) (tm 19))), (wG 17 false 21 (doFieldAddr 3 (tm 20))), (wG 17 false 22 (doLoad (tm 21))), (wG 17 false 23 (doLenS (tm 22))), (wG 17 false 24 (bin2 fGtr (tm 23) (oN 40))), (wB 25 (doPick (tm 17) (O.c (V.b Bool.true)) (tm 24)))]) s9_3)
noncomputable abbrev s9_5 : CC := (CC.block 1 s9_4)
noncomputable abbrev s9_6 : CC := (CC.region [(wB 8 (doMove (tm 3))), (wB 9 (bin2 fAdd (tm 8) (oN 1))), (wB 3 (doMove (tm 9)))])
noncomputable abbrev s9_7 : CC := (CC.seq s9_5 s9_6)
noncomputable abbrev l9_0 : CC := (CC.seq s9_1 s9_7)
noncomputable abbrev s9_8 : CC := (CC.loop l9_0)
noncomputable abbrev s9_9 : CC := (CC.block 0 s9_8)
noncomputable abbrev s9_10 : CC := (CC.seq (CC.region [(wB 3 (doMove (oN 0)))]) s9_9)
noncomputable abbrev s9_11 : CC := (CC.seq (CC.region [(wB 26 (doMove (tm 0))), (wB 27 (doLen (tm 26))), (wB 28 (bin2 fLeq (tm 27) (oN 60))), (wB 2 (doMove (tm 28)))]) CC.ret)
noncomputable abbrev s9_12 : CC := (CC.seq s9_10 s9_11)
noncomputable abbrev b9 : CC := (CC.seq (CC.region [(wB 2 (doMove (O.c (V.b Bool.false))))]) s9_12)
theorem c9 : compFn Try.prog 9 = ⟨29, b9, [(Rs.tmp (slOf 2))]⟩ := by kernel_rfl
end Go.Proofs.Ytcaoeoeeaaeieaa

set_option maxRecDepth 100000
set_option maxHeartbeats 8000000
set_option linter.all false
namespace Go.Proofs.Ytcaoeoeeaaeieaa
open Go Go.Ev
theorem swn_bufE {h : H} {el n : Nat} {v : V} {xs : List V} (b : Buf h el n v xs) : SwN n v := by
  rcases b with ⟨rfl, _⟩ | ⟨id, g, m, blk, rfl, h1, h2, _⟩
  · exact .inl rfl
  · exact .inr ⟨_, _, _, _, _, _, rfl, by show xs.length = 0 + m * n; omega⟩
end Go.Proofs.Ytcaoeoeeaaeieaa

set_option maxRecDepth 100000
set_option maxHeartbeats 8000000
set_option linter.all false
namespace Go.Proofs.Ytcaoeoeeaaeieaa
open Go Go.Ev
/-- the heap at y is that of the row L; its blocks are U -/
def Hp (h : H) (y : V) (L : List Ent) (U : B → Prop) : Prop :=
  ∃ s v K P, y = .p s 0 0 7 ∧ L = P.map (·.e) ∧ HpM h s v K P (L.length : Int) (bytesN L : Int) ∧ (∀ p ∈ P, 1 ≤ p.k) ∧ K ≤ 65 ∧ L.all isE = true ∧ sortedE L = true ∧ ∀ i, U i ↔ fpP s v P i
theorem Hp.stay {h h' : H} {y : V} {L : List Ent} {U p : B → Prop} (a : Hp h y L U) (s : Stay p h h') (hp : ∀ i, U i → ¬ p i) : Hp h' y L U := by
  obtain ⟨b, v, K, P, e1, e2, M, e3, e4, e5, e6, e7⟩ := a
  exact ⟨b, v, K, P, e1, e2, M.stay s fun i hi => hp i ((e7 i).2 hi), e3, e4, e5, e6, e7⟩
theorem Hp.lt {h : H} {y : V} {L : List Ent} {U : B → Prop} (a : Hp h y L U) : ∀ i, U i → B.val i < B.val h.next := by
  obtain ⟨b, v, K, P, e1, e2, M, e3, e4, e5, e6, e7⟩ := a
  exact fun i hi => M.lt i ((e7 i).1 hi)
theorem Hp.ok {h : H} {y : V} {L : List Ent} {U : B → Prop} (a : Hp h y L U) : L.all isE = true ∧ sortedE L = true := by
  obtain ⟨b, v, K, P, e1, e2, M, e3, e4, e5, e6, e7⟩ := a
  exact ⟨e5, e6⟩
theorem hnew_ok {h : H} (hf : B.val h.floor ≤ B.val h.next) : FnOk Try.prog 10 [] h fun y h' => ∃ U, Hp h' y [] U ∧ (∀ i, U i → B.val h.next ≤ B.val i) ∧ Stay nowhere h h' := by
  refine fn_go c10 (by intro hb; cases hb) (by simp) (by simp) fun Q hQ => ?_
  simp only [slotsF, Nat.reduceAdd]
  repeat' (first
    | refine St.h ?_
    | simp (disch := first | omega | (simp only [lnv]; omega)) only [wlk, ↓get_put', ↓reduceIte, seval]
    | (with_reducible (first | apply cd_split | apply gd_split)) <;> (intro hc; (try simp only [hcn] at hc); (try simp only [hc]); (try simp only [hcl] at hc); try omega))
  refine AL.own (by simp) hf fun h1 s1 n1 o1 => ?_
  repeat' (first
    | refine St.h ?_
    | simp (disch := first | omega | (simp only [lnv]; omega)) only [wlk, ↓get_put', ↓reduceIte, seval]
    | (with_reducible (first | apply cd_split | apply gd_split)) <;> (intro hc; (try simp only [hcn] at hc); (try simp only [hc]); (try simp only [hcl] at hc); try omega))
  subst hQ
  refine ⟨fpP h.next .l0 [], ⟨h.next, .l0, 0, [], rfl, rfl, ⟨o1, Buf.nil _ _ _, Top.nil _, ?_, List.Pairwise.nil, by simp, ?_, by simp⟩, by simp, by omega, rfl, rfl, fun i => Iff.rfl⟩, ?_, s1⟩
  · intro A q C e
    have := congrArg List.length e
    simp at this
  · rintro ⟨_, _, _, _, _, e⟩; cases e
  · rintro i (e | e | ⟨p, hp, _⟩)
    · rw [e]; exact Nat.le_refl _
    · obtain ⟨_, _, _, _, _, e⟩ := e; cases e
    · cases hp
theorem hlen_ok {h : H} {y : V} {L : List Ent} {U : B → Prop} (a : Hp h y L U) : FnOk Try.prog 20 [y] h fun r h' => r = .i .i64 (L.length : Int) ∧ h' = h := by
  obtain ⟨b, v, K, P, rfl, e2, M, e3, e4, e5, e6, e7⟩ := a
  refine fn_go c20 (by intro hb; cases hb) (by simp) (by simp) fun Q hQ => ?_
  simp only [slotsF, Nat.reduceAdd]
  repeat' (first
    | refine St.h ?_
    | simp (disch := first | omega | (simp only [lnv]; omega)) only [wlk, ↓get_put', ↓reduceIte, seval, M.own.row.l1]
    | (with_reducible (first | apply cd_split | apply gd_split)) <;> (intro hc; (try simp only [hcn] at hc); (try simp only [hc]); (try simp only [hcl] at hc); try omega))
  subst hQ
  exact ⟨rfl, rfl⟩
theorem hbytes_ok {h : H} {y : V} {L : List Ent} {U : B → Prop} (a : Hp h y L U) (hl : L.length ≤ 300) : FnOk Try.prog 21 [y] h fun r h' => r = .i .i64 (bytesN L : Int) ∧ h' = h := by
  obtain ⟨b, v, K, P, rfl, e2, M, e3, e4, e5, e6, e7⟩ := a
  refine fn_go c21 (by intro hb; cases hb) (by simp) (by simp) fun Q hQ => ?_
  simp only [slotsF, Nat.reduceAdd]
  repeat' (first
    | refine St.h ?_
    | simp (disch := first | omega | (simp only [lnv]; omega)) only [wlk, ↓get_put', ↓reduceIte, seval, M.own.row.l1]
    | (with_reducible (first | apply cd_split | apply gd_split)) <;> (intro hc; (try simp only [hcn] at hc); (try simp only [hc]); (try simp only [hcl] at hc); try omega))
  subst hQ
  exact ⟨rfl, rfl⟩
theorem all_get {L : List Ent} (h : L.all isE = true) {e : Ent} (he : e ∈ L) : isE e = true := (List.all_eq_true.1 h) e he
theorem low_key {e : Ent} {fr : List UInt8} (h1 : isE e = true) (h2 : lessE e ⟨fr, 1000000, false, []⟩ = true) : Op.bytesLess e.key fr = true := by
  have hs := (isE_iff.1 h1).1.2
  by_cases hk : e.key = fr
  · rw [lessE_eq (b := ⟨fr, 1000000, false, []⟩) hk] at h2
    have : (1000000 : Int) < e.seq := of_decide_eq_true h2
    omega
  · rwa [lessE_ne (b := ⟨fr, 1000000, false, []⟩) hk] at h2
theorem high_key {e : Ent} {fr : List UInt8} (h2 : lessE e ⟨fr, 1000000, false, []⟩ = false) : Op.bytesLess e.key fr = false := by
  by_cases hk : e.key = fr
  · rw [hk]; exact bl_irr _
  · rwa [lessE_ne (b := ⟨fr, 1000000, false, []⟩) hk] at h2
theorem hrangeF_ok {h : H} {y : V} {L : List Ent} {U : B → Prop} {fr to : List UInt8} (a : Hp h y L U) (hl : L.length ≤ 300) (hf : B.val h.floor ≤ B.val h.next) : FnOk Try.prog 18 [y, sv fr, sv to] h fun r h' =>
    Es h' r (rangeE L fr to) ∧ SwN 4 r ∧ Stay nowhere h h' ∧ ∀ q, isOf r q → B.val h.next ≤ B.val q := by
  obtain ⟨s, v, K, P, rfl, e2, M, e3, e4, e5, e6, e7⟩ := a
  refine fn_go c18 (by intro hb; cases hb) (by simp) (by simp) fun Q hQ => ?_
  simp only [slotsF, Nat.reduceAdd]
  repeat' (first
    | refine St.h ?_
    | simp (disch := first | omega | (simp only [lnv]; omega)) only [wlk, ↓get_put', ↓reduceIte, seval]
    | (with_reducible (first | apply cd_split | apply gd_split)) <;> (intro hc; (try simp only [hcn] at hc); (try simp only [hc]); (try simp only [hcl] at hc); try omega))
  refine CL.mk (seek_ok (x := ⟨fr, 1000000, false, []⟩) M (by rw [← e2]; exact e6) e3 e4 hf) ?_
  rintro _ h2 ⟨w, A, C, hP, hA, hC, rfl, _, _, s2⟩
  have hf2 := s2.fl hf
  have hin : ∀ a ∈ A, inR fr to a.e = false := fun a ha => by
    unfold inR
    rw [low_key (all_get e5 (by rw [e2, hP]; exact List.mem_map_of_mem (by simp [ha]))) (hA a ha)]; rfl
  have hout : ∀ c ∈ C, inR fr to c.e = (decide (to = []) || Op.bytesLess c.e.key to) := fun c hc => by
    unfold inR
    rw [high_key (hC c hc)]; rfl
  repeat' (first
    | refine St.h ?_
    | simp (disch := first | omega | (simp only [lnv]; omega)) only [wlk, ↓get_put', ↓reduceIte, seval]
    | (with_reducible (first | apply cd_split | apply gd_split)) <;> (intro hc; (try simp only [hcn] at hc); (try simp only [hc]); (try simp only [hcl] at hc); try omega))
  refine Ok.lp (fun m t g => ∃ (C1 C2 : List Pl) (u : V), m = C2.length ∧ C = C1 ++ C2 ∧ (∀ c ∈ C1, (decide (to = []) || Op.bytesLess c.e.key to) = true) ∧ get 2 t = sv to ∧ get 7 t = u ∧ get 9 t = fstP 0 C2 ∧ Buf g 29 4 u ((C1.map (·.e)).flatMap entC) ∧ (∀ q, isOf u q → B.val h.next ≤ B.val q) ∧ Stay nowhere h g) C.length ?_ ?_
  · simp (disch := first | omega | (simp only [lnv]; omega)) only [wlk, ↓get_put', ↓reduceIte, seval]
    refine ⟨[], C, .l0, rfl, rfl, by simp, ?_, ?_, ?_, Buf.nil _ _ _, ?_, s2⟩
    rotate_right
    · rintro i ⟨_, _, _, _, _, e⟩; cases e
    all_goals first | trivial | rfl
  rintro I hI m t g ⟨C1, C2, u, rfl, hC2, hC1, f2, f7, f9, bf, own, st⟩
  have hfg := st.fl hf
  have Mg := M.grow st
  have fin : (∀ C3, C2 = C3 → (C3 = [] ∨ ∃ q C4, C3 = q :: C4 ∧ (decide (to = []) || Op.bytesLess q.e.key to) = false)) → rangeE L fr to = C1.map (·.e) := by
    intro hx
    unfold rangeE
    rw [e2, hP, hC2, List.map_append, List.filter_append, List.map_append, List.filter_append, List.filter_eq_nil_iff.2 fun e he => by
      obtain ⟨a, ha, rfl⟩ := List.mem_map.1 he
      rw [hin a ha]; simp, List.filter_eq_self.2 fun e he => by
      obtain ⟨a, ha, rfl⟩ := List.mem_map.1 he
      rw [hout a (by rw [hC2]; simp [ha])]; exact hC1 a ha, List.nil_append]
    rcases hx C2 rfl with e | ⟨q, C4, e, hq⟩
    · rw [e]; simp
    · rw [e, List.filter_eq_nil_iff.2 fun e' he => ?_, List.append_nil]
      obtain ⟨c, hc, rfl⟩ := List.mem_map.1 he
      rw [hout c (by rw [hC2, e]; exact List.mem_append_right _ hc)]
      rw [Bool.or_eq_false_iff] at hq
      rw [hq.1, Bool.false_or]
      rcases List.mem_cons.1 hc with h9 | h9
      · rw [h9, hq.2]; simp
      · have hs' := e6
        rw [e2, hP, hC2, e] at hs'
        have h10 := (sorted_parts hs').2 c h9
        intro h11
        by_cases hk : q.e.key = c.e.key
        · rw [hk, h11] at hq; exact absurd hq.2 (by simp)
        · rw [lessE_ne hk] at h10
          have := bl_trans h10 h11
          rw [hq.2] at this; cases this
  rcases fstP_cases 0 C2 with ⟨c1, c2⟩ | ⟨D, q, C3, c1, c2, c3, c4⟩
  · have hC0 : C2 = [] := List.eq_nil_iff_forall_not_mem.2 fun c hc => by
      have := e3 c (by rw [hP, hC2]; simp [hc]); have := c2 c hc; omega
    rw [c1] at f9
    repeat' (first
      | refine St.h ?_
      | simp (disch := first | omega | (simp only [lnv]; omega)) only [wlk, ↓get_put', ↓reduceIte, seval, f2, f7, f9, or_ptr, h2_ptr00, h2_ptr10]
      | (with_reducible (first | apply cd_split | apply gd_split)) <;> (intro hc; (try simp only [hcn] at hc); (try simp only [hc]); (try simp only [hcl] at hc); try omega))
    subst hQ
    rw [fin fun C3 e => .inl (by rw [← e, hC0])]
    exact ⟨Ss.buf bf rfl entC_len (by omega), swn_bufE bf, st, own⟩
  have hD : D = [] := List.eq_nil_iff_forall_not_mem.2 fun c hc => by
    have := e3 c (by rw [hP, hC2, c1]; simp [hc]); have := c2 c hc; omega
  subst hD
  rw [List.nil_append] at c1
  subst c1
  rw [c4, ptP] at f9
  have hP' : P = (A ++ C1) ++ q :: C3 := by rw [hP, hC2, List.append_assoc]
  obtain ⟨oq, oc⟩ := Mg.chn (A ++ C1) q C3 hP'
  unfold plC entC at oq
  have oqr := oq.row
  have hocl := oc.lst (some q.m)
  have hqk := M.ht q (by rw [hP']; simp)
  rw [rowP_len hqk.2] at hocl
  have hq0 : 0 < q.k := c3
  have hqm := hqk.2
  have hr0 : (rowP q C3).getD 0 .u = fstP 0 C3 := rowP_at hq0
  have ocr := oc.row
  have hrl : (rowP q C3).length = q.m := rowP_len hqk.2 C3
  have hCl : C1.length + (C3.length + 1) ≤ 300 := by
    have := congrArg List.length hC2
    have h9 : A.length + C.length = L.length := by rw [e2, hP]; simp
    simp at this; omega
  have hfl : ((C1.map (·.e)).flatMap entC).length = C1.length * 4 := by rw [fm_len entC_len]; simp
  by_cases ht : to = []
  · subst ht
    repeat' (first
      | refine St.h ?_
      | simp (disch := first | omega | (simp only [lnv]; omega)) only [wlk, ↓get_put', ↓reduceIte, seval, f2, f7, f9, or_ptr, h2_ptr00, h2_ptr10, oqr.l1, oqr.ln]
      | (with_reducible (first | apply cd_split | apply gd_split)) <;> (intro hc; (try simp only [hcn] at hc); (try simp only [hc]); (try simp only [hcl] at hc); try omega))
    refine AL.own (by simp) hfg fun g1 t1 m1 o1 => ?_
    have bf1 := bf.grow t1
    have hfg1 := t1.fl hfg
    repeat' (first
      | refine St.h ?_
      | simp (disch := first | omega | (simp only [lnv]; omega)) only [wlk, ↓get_put', ↓reduceIte, seval, f2, f7, f9]
      | (with_reducible (first | apply cd_split | apply gd_split)) <;> (intro hc; (try simp only [hcn] at hc); (try simp only [hc]); (try simp only [hcl] at hc); try omega))
    refine AP.buf (vs := entC q.e) (cnt := 1) bf1 (new_row o1.row rfl (Nat.le_refl _) (by omega) (by show 4 ≤ 4; omega)) hfg1 (by omega) rfl rfl (by rw [hfl]; show C1.length * 4 + 4 ≤ 1048576; omega) fun u2 g2 bf2 t2 ho tp => ?_
    have st2 := (st.trans t1).past' t2 fun q hq => own q hq
    have M2 := M.grow st2
    obtain ⟨oq2, oc2⟩ := M2.chn (A ++ C1) q C3 hP'
    unfold plC entC at oq2
    have oq2r := oq2.row
    have oc2r := oc2.row
    repeat' (first
      | refine St.h ?_
      | simp (disch := first | omega | (simp only [lnv]; omega)) only [wlk, ↓get_put', ↓reduceIte, seval, f2, f7, f9, oq2r.l1, oc2r.l1, hr0]
      | (with_reducible (first | apply cd_split | apply gd_split)) <;> (intro hc; (try simp only [hcn] at hc); (try simp only [hc]); (try simp only [hcl] at hc); try omega))
    refine lp_next hI C3.length (by simp) ⟨C1 ++ [q], C3, u2, rfl, by rw [hC2]; simp, fun c hc => ?_, ?_, ?_, ?_, by rw [List.map_append, List.flatMap_append]; simpa using bf2, fun i hi => ?_, st2⟩
    · rcases List.mem_append.1 hc with h9 | h9
      · exact hC1 c h9
      · rw [List.mem_singleton.1 h9]; rfl
    · simp (disch := first | omega | (simp only [lnv]; omega)) only [wlk, ↓get_put', ↓reduceIte, seval, f2]
    · simp (disch := first | omega | (simp only [lnv]; omega)) only [wlk, ↓get_put', ↓reduceIte, seval]
    · simp (disch := first | omega | (simp only [lnv]; omega)) only [wlk, ↓get_put', ↓reduceIte, seval]
    · rcases ho i hi with h9 | h9
      · exact own i h9
      · have := (st.trans t1).next; omega
  cases hlt : Op.bytesLess q.e.key to with
  | false =>
    repeat' (first
      | refine St.h ?_
      | simp (disch := first | omega | (simp only [lnv]; omega)) only [wlk, ↓get_put', ↓reduceIte, seval, f2, f7, f9, or_ptr, h2_ptr00, h2_ptr10, oqr.l1, oqr.ln, ht, hlt]
      | (with_reducible (first | apply cd_split | apply gd_split)) <;> (intro hc; (try simp only [hcn] at hc); (try simp only [hc]); (try simp only [hcl] at hc); try omega))
    subst hQ
    rw [fin fun C4 e => .inr ⟨q, C3, e.symm, by rw [decide_eq_false ht, hlt]; rfl⟩]
    exact ⟨Ss.buf bf rfl entC_len (by omega), swn_bufE bf, st, own⟩
  | true =>
    repeat' (first
      | refine St.h ?_
      | simp (disch := first | omega | (simp only [lnv]; omega)) only [wlk, ↓get_put', ↓reduceIte, seval, f2, f7, f9, or_ptr, h2_ptr00, h2_ptr10, oqr.l1, oqr.ln, ht, hlt]
      | (with_reducible (first | apply cd_split | apply gd_split)) <;> (intro hc; (try simp only [hcn] at hc); (try simp only [hc]); (try simp only [hcl] at hc); try omega))
    refine AL.own (by simp) hfg fun g1 t1 m1 o1 => ?_
    have bf1 := bf.grow t1
    have hfg1 := t1.fl hfg
    repeat' (first
      | refine St.h ?_
      | simp (disch := first | omega | (simp only [lnv]; omega)) only [wlk, ↓get_put', ↓reduceIte, seval, f2, f7, f9]
      | (with_reducible (first | apply cd_split | apply gd_split)) <;> (intro hc; (try simp only [hcn] at hc); (try simp only [hc]); (try simp only [hcl] at hc); try omega))
    refine AP.buf (vs := entC q.e) (cnt := 1) bf1 (new_row o1.row rfl (Nat.le_refl _) (by omega) (by show 4 ≤ 4; omega)) hfg1 (by omega) rfl rfl (by rw [hfl]; show C1.length * 4 + 4 ≤ 1048576; omega) fun u2 g2 bf2 t2 ho tp => ?_
    have st2 := (st.trans t1).past' t2 fun q hq => own q hq
    have M2 := M.grow st2
    obtain ⟨oq2, oc2⟩ := M2.chn (A ++ C1) q C3 hP'
    unfold plC entC at oq2
    have oq2r := oq2.row
    have oc2r := oc2.row
    repeat' (first
      | refine St.h ?_
      | simp (disch := first | omega | (simp only [lnv]; omega)) only [wlk, ↓get_put', ↓reduceIte, seval, f2, f7, f9, oq2r.l1, oc2r.l1, hr0]
      | (with_reducible (first | apply cd_split | apply gd_split)) <;> (intro hc; (try simp only [hcn] at hc); (try simp only [hc]); (try simp only [hcl] at hc); try omega))
    refine lp_next hI C3.length (by simp) ⟨C1 ++ [q], C3, u2, rfl, by rw [hC2]; simp, fun c hc => ?_, ?_, ?_, ?_, by rw [List.map_append, List.flatMap_append]; simpa using bf2, fun i hi => ?_, st2⟩
    · rcases List.mem_append.1 hc with h9 | h9
      · exact hC1 c h9
      · rw [List.mem_singleton.1 h9]; rw [hlt, Bool.or_true]
    · simp (disch := first | omega | (simp only [lnv]; omega)) only [wlk, ↓get_put', ↓reduceIte, seval, f2]
    · simp (disch := first | omega | (simp only [lnv]; omega)) only [wlk, ↓get_put', ↓reduceIte, seval]
    · simp (disch := first | omega | (simp only [lnv]; omega)) only [wlk, ↓get_put', ↓reduceIte, seval]
    · rcases ho i hi with h9 | h9
      · exact own i h9
      · have := (st.trans t1).next; omega
theorem range_all {L : List Ent} : rangeE L [] [] = L := by
  unfold rangeE
  refine List.filter_eq_self.2 fun e _ => ?_
  unfold inR
  have : Op.bytesLess e.key [] = false := by cases e.key <;> rfl
  rw [this]; rfl
theorem hallF_ok {h : H} {y : V} {L : List Ent} {U : B → Prop} (a : Hp h y L U) (hl : L.length ≤ 300) (hf : B.val h.floor ≤ B.val h.next) : FnOk Try.prog 17 [y] h fun r h' => Es h' r L ∧ SwN 4 r ∧ Stay nowhere h h' ∧ ∀ q, isOf r q → B.val h.next ≤ B.val q := by
  refine fn_go c17 (by intro hb; cases hb) (by simp) (by simp) fun Q hQ => ?_
  simp only [slotsF, Nat.reduceAdd]
  repeat' (first
    | refine St.h ?_
    | simp (disch := first | omega | (simp only [lnv]; omega)) only [wlk, ↓get_put', ↓reduceIte, seval]
    | (with_reducible (first | apply cd_split | apply gd_split)) <;> (intro hc; (try simp only [hcn] at hc); (try simp only [hc]); (try simp only [hcl] at hc); try omega))
  refine CL.mk (hrangeF_ok (fr := []) (to := []) a hl hf) ?_
  rintro r h1 ⟨r1, r2, s1, r3⟩
  rw [range_all] at r1
  repeat' (first
    | refine St.h ?_
    | simp (disch := first | omega | (simp only [lnv]; omega)) only [wlk, ↓get_put', ↓reduceIte, seval]
    | (with_reducible (first | apply cd_split | apply gd_split)) <;> (intro hc; (try simp only [hcn] at hc); (try simp only [hc]); (try simp only [hcl] at hc); try omega))
  subst hQ
  exact ⟨r1, r2, s1, r3⟩
theorem hall_ok {h : H} {y : V} {L : List Ent} {U : B → Prop} (a : Hp h y L U) (hl : L.length ≤ 300) (hf : B.val h.floor ≤ B.val h.next) : FnOk Try.prog 17 [y] h fun r h' => Es h' r L ∧ SwN 4 r ∧ Stay nowhere h h' := (hallF_ok a hl hf).mono fun _ _ x => ⟨x.1, x.2.1, x.2.2.1⟩
end Go.Proofs.Ytcaoeoeeaaeieaa

set_option maxRecDepth 1000000
namespace Go.Proofs.Ytcaoeoeeaaeieaa.ravelinlaw10
open Go.Ev
theorem known_run : runFn noTb Try.prog 1000 8 [] = true := by kernel_rfl
theorem known_pure : PureTrue Try.prog 8 := pure_of (noTb_ok _) (Checked.mixed Try.checked) known_run
end Go.Proofs.Ytcaoeoeeaaeieaa.ravelinlaw10

set_option maxRecDepth 100000
set_option maxHeartbeats 8000000
set_option linter.all false
namespace Go.Proofs.Ytcaoeoeeaaeieaa
open Go Go.Ev
theorem HpM.cnt {h h' : H} {s : B} {v : V} {K : Nat} {P : List Pl} {n y n' y' : Int} (M : HpM h s v K P n y) (o : Ev.Own h' s [sv [], .i .i64 0, .b false, sv [], v, .i .i64 n', .i .i64 y']) (t : Stay (fun i => i = s) h h') : HpM h' s v K P n' y' :=
  ⟨o, M.buf.stay t fun i e e2 => M.vs (by rw [← e2]; exact e), M.tp.stay t (fun i e => (M.buf.own e).2) fun i e e2 => M.vs (by rw [← e2]; exact e),
   fun A q C e => ⟨(M.chn A q C e).1.stay t (M.ps q (by rw [e]; simp)).1, (M.chn A q C e).2.stay t (M.ps q (by rw [e]; simp)).2.1⟩, M.pw, M.ps, M.vs, M.ht⟩
theorem has_low {L : List Ent} {x : Ent} (h : ∀ e ∈ L, lessE e x = true ∨ lessE x e = true) : hasE L x = false := by
  cases hh : hasE L x with
  | false => rfl
  | true =>
    obtain ⟨a, ha, h1, h2⟩ := hasE_mem.1 hh
    rcases h a ha with e | e
    · rw [lessE_eq h1, h2] at e; simp at e
    · rw [lessE_eq h1.symm, h2] at e; simp at e
theorem ins_mid {A C : List Pl} {x : Ent} (hA : ∀ a ∈ A, lessE a.e x = true) (hC : C = [] ∨ ∃ q D, C = q :: D ∧ lessE x q.e = true) : insE x ((A ++ C).map (·.e)) = A.map (·.e) ++ x :: C.map (·.e) := by
  rw [List.map_append, insE_none fun e he => by
    obtain ⟨a, ha, rfl⟩ := List.mem_map.1 he
    exact lessE_asym (hA a ha)]
  congr 1
  rcases hC with e | ⟨q, D, e, h⟩
  · rw [e]; rfl
  · rw [e]
    show (if lessE x q.e then _ else _) = _
    rw [h]; rfl
theorem hput_ok {h : H} {y : V} {L : List Ent} {U : B → Prop} {x : Ent} (a : Hp h y L U) (hl : L.length ≤ 300) (hf : B.val h.floor ≤ B.val h.next) : FnOk Try.prog 12 [y, .a (entC x)] h fun r h' =>
    r = .b (putE L x).2 ∧ ∃ U', Hp h' y (putE L x).1 U' ∧ (∀ i, U' i → U i ∨ B.val h.next ≤ B.val i) ∧ Stay U h h' := by
  have a0 := a
  obtain ⟨s, v, K, P, rfl, e2, M, e3, e4, e5, e6, e7⟩ := a
  obtain ⟨xk, xq, xd, xv⟩ := x
  unfold entC
  refine fn_go c12 (by intro hb; cases hb) (by simp) (by simp) fun Q hQ => ?_
  simp only [slotsF, Nat.reduceAdd]
  repeat' (first
    | refine St.h ?_
    | simp (disch := first | omega | (simp only [lnv]; omega)) only [wlk, ↓get_put', ↓reduceIte, seval]
    | (with_reducible (first | apply cd_split | apply gd_split)) <;> (intro hc; (try simp only [hcn] at hc); (try simp only [hc]); (try simp only [hcl] at hc); try omega))
  refine AL.own (by simp) hf fun h1 s1 n1 o1 => ?_
  have hf1 := s1.fl hf
  have or1 := o1.row
  repeat' (first
    | refine St.h ?_
    | simp (disch := first | omega | (simp only [lnv]; omega)) only [wlk, ↓get_put', ↓reduceIte, seval, or1.ln]
    | (with_reducible (first | apply cd_split | apply gd_split)) <;> (intro hc; (try simp only [hcn] at hc); (try simp only [hc]); (try simp only [hcl] at hc); try omega))
  refine CL.stay (is_ok (e := ⟨xk, xq, xd, xv⟩) hf1) fun h2 s2 => ?_
  have hf2 := s2.fl hf1
  have s02 := s1.trans s2
  have o2 := o1.stay s2 fun e => e
  have or2 := o2.row
  cases hi : isE ⟨xk, xq, xd, xv⟩ with
  | false =>
    repeat' (first
      | refine St.h ?_
      | simp (disch := first | omega | (simp only [lnv]; omega)) only [wlk, ↓get_put', ↓reduceIte, seval]
      | (with_reducible (first | apply cd_split | apply gd_split)) <;> (intro hc; (try simp only [hcn] at hc); (try simp only [hc]); (try simp only [hcl] at hc); try omega))
    subst hQ
    rw [putE_bad hi]
    exact ⟨rfl, U, a0.stay s02 fun _ _ e => e, fun i e => .inl e, s02.mono fun _ _ e => e.elim⟩
  | true =>
  repeat' (first
    | refine St.h ?_
    | simp (disch := first | omega | (simp only [lnv]; omega)) only [wlk, ↓get_put', ↓reduceIte, seval, or2.ln]
    | (with_reducible (first | apply cd_split | apply gd_split)) <;> (intro hc; (try simp only [hcn] at hc); (try simp only [hc]); (try simp only [hcl] at hc); try omega))
  refine CL.mk (seek_ok (x := ⟨xk, xq, xd, xv⟩) (M.grow s02) (by rw [← e2]; exact e6) e3 e4 hf2) ?_
  rintro _ h3 ⟨w, A, C, hP, hA, hC, rfl, aw, how, s3⟩
  have hf3 := s3.fl hf2
  have s03 := s02.trans s3
  have o3 := o2.stay s3 fun e => e
  have or3 := o3.row
  have M3 := M.grow s03
  have hLn : L = A.map (·.e) ++ C.map (·.e) := by rw [e2, hP, List.map_append]
  have hlk := (isE_iff.1 hi).2
  have hlk : 1 ≤ xk.length ∧ xk.length ≤ 13 ∧ xv.length ≤ 24 := ⟨hlk.1, hlk.2.1, hlk.2.2.1⟩
  have hbl := bytesN_le e5
  have hno : ∀ i, isOf w i → i ≠ h.next := fun i e e2 => by
    have := how i e
    rw [e2] at this
    have := s2.next
    omega
  have key : ∀ {q : Pl} {C2 : List Pl}, C = q :: C2 → ∀ c ∈ C2, lessE q.e c.e = true := fun {q C2} e c hc => by
    have hs' := e6
    rw [e2, hP, e] at hs'
    exact (sorted_parts (C1 := []) hs').2 c hc
  rcases fstP_cases 0 C with ⟨c1, c2⟩ | ⟨C1, q, C2, c1, c2, c3, c4⟩
  · have hC0 : C = [] := List.eq_nil_iff_forall_not_mem.2 fun c hc => by
      have := e3 c (by rw [hP]; simp [hc]); have := c2 c hc; omega
    have hhas : hasE L ⟨xk, xq, xd, xv⟩ = false := has_low fun e he => by
      rw [hLn, hC0, List.map_nil, List.append_nil] at he
      obtain ⟨a, ha, rfl⟩ := List.mem_map.1 he
      exact .inl (hA a ha)
    have hins := ins_mid (x := ⟨xk, xq, xd, xv⟩) (C := C) hA (.inl hC0)
    rw [← hP, ← e2] at hins
    repeat' (first
      | refine St.h ?_
      | simp (disch := first | omega | (simp only [lnv]; omega)) only [wlk, ↓get_put', ↓reduceIte, seval, c1, or_ptr, h2_ptr00, h2_ptr10, or3.l1]
      | (with_reducible (first | apply cd_split | apply gd_split)) <;> (intro hc; (try simp only [hcn] at hc); (try simp only [hc]); (try simp only [hcl] at hc); try omega))
    have hput : putE L ⟨xk, xq, xd, xv⟩ = (insE ⟨xk, xq, xd, xv⟩ L, true) := putE_ok hi hhas
    refine CL.stayU (clone_ok (by omega) (re_fl _)) fun h5 s5 => ?_
    have hf5 := s5.fl hf3
    have o5 := o3.stay s5 fun e => e
    have or5 := o5.row
    repeat' (first
      | refine St.h ?_
      | simp (disch := first | omega | (simp only [lnv]; omega)) only [wlk, ↓get_put', ↓reduceIte, seval, or5.l1]
      | (with_reducible (first | apply cd_split | apply gd_split)) <;> (intro hc; (try simp only [hcn] at hc); (try simp only [hc]); (try simp only [hcl] at hc); try omega))
    refine CL.stay (clone_ok (by omega) hf5) fun h6 s6 => ?_
    have hf6 := s6.fl hf5
    have o6 := o5.stay s6 fun e => e
    repeat' (first
      | refine St.h ?_
      | simp (disch := first | omega | (simp only [lnv]; omega)) only [wlk, ↓get_put', ↓reduceIte, seval]
      | (with_reducible (first | apply cd_split | apply gd_split)) <;> (intro hc; (try simp only [hcn] at hc); (try simp only [hc]); (try simp only [hcl] at hc); try omega))
    refine ST.own o6 rfl rfl (by omega) (by omega) fun h7 o7 s7 => ?_
    have hf7 := s7.fl hf6
    repeat' (first
      | refine St.h ?_
      | simp (disch := first | omega | (simp only [lnv]; omega)) only [wlk, ↓get_put', ↓reduceIte, seval]
      | (with_reducible (first | apply cd_split | apply gd_split)) <;> (intro hc; (try simp only [hcn] at hc); (try simp only [hc]); (try simp only [hcl] at hc); try omega))
    refine ST.own o7 rfl rfl (by omega) (by omega) fun h8 o8 s8 => ?_
    have hf8 := s8.fl hf7
    have or8 := o8.row
    have s08 : Stay nowhere h h8 := (((s03.trans s5).trans s6).past' s7 fun i e => by rw [e]; exact Nat.le_refl _).past' s8 fun i e => by rw [e]; exact Nat.le_refl _
    have M8 := M.grow s08
    rw [hP] at M8
    have aw8 := ((((aw.stay s5 fun _ _ e => e).stay s6 fun _ _ e => e).stay s7 fun i e e2 => hno i e e2).stay s8 fun i e e2 => hno i e e2)
    repeat' (first
      | refine St.h ?_
      | simp (disch := first | omega | (simp only [lnv]; omega)) only [wlk, ↓get_put', ↓reduceIte, seval, or8.ln]
      | (with_reducible (first | apply cd_split | apply gd_split)) <;> (intro hc; (try simp only [hcn] at hc); (try simp only [hc]); (try simp only [hcl] at hc); try omega))
    refine CL.mk (link_ok (x := ⟨xk, xq, xd, xv⟩) M8 (by show xk.length ≤ 1000000; omega) aw8 (fun i e e2 => ?_) (fun i e => aw8.lt e) e4 hf8) ?_
    · have h10 := how i e
      have h11 := M.lt i (by rw [hP]; exact e2)
      have h12 := s02.next
      omega
    rintro _ h9 ⟨v', K', p, p1, p2, p3, p4, p5, M9, p6, s9⟩
    have hf9 := s9.fl hf8
    have or9 := M9.own.row
    repeat' (first
      | refine St.h ?_
      | simp (disch := first | omega | (simp only [lnv]; omega)) only [wlk, ↓get_put', ↓reduceIte, seval, or9.l1]
      | (with_reducible (first | apply cd_split | apply gd_split)) <;> (intro hc; (try simp only [hcn] at hc); (try simp only [hc]); (try simp only [hcl] at hc); try omega))
    refine ST.own M9.own rfl rfl (by omega) (by omega) fun h10 o10 s10 => ?_
    have or10 := o10.row
    have o10' : Ev.Own h10 h.next [sv xk, .i .i64 xq, .b xd, sv xv] := by
      refine ((o8.stay s9 ?_).stay s10 fun e => ?_)
      · rintro (e | e)
        · have := M.lt _ (by rw [hP]; exact e); omega
        · exact hno _ e rfl
      · have e : h.next = s := e
        have := own_lt' M.own
        rw [← e] at this; omega
    have or10' := o10'.row
    repeat' (first
      | refine St.h ?_
      | simp (disch := first | omega | (simp only [lnv]; omega)) only [wlk, ↓get_put', ↓reduceIte, seval, or10.l1, or10'.l1]
      | (with_reducible (first | apply cd_split | apply gd_split)) <;> (intro hc; (try simp only [hcn] at hc); (try simp only [hc]); (try simp only [hcl] at hc); try omega))
    refine ST.own o10 rfl rfl (by omega) (by omega) fun h11 o11 s11 => ?_
    repeat' (first
      | refine St.h ?_
      | simp (disch := first | omega | (simp only [lnv]; omega)) only [wlk, ↓get_put', ↓reduceIte, seval]
      | (with_reducible (first | apply cd_split | apply gd_split)) <;> (intro hc; (try simp only [hcn] at hc); (try simp only [hc]); (try simp only [hcl] at hc); try omega))
    subst hQ
    rw [hput]
    have M11 := M9.cnt (n' := ((insE ⟨xk, xq, xd, xv⟩ L).length : Nat)) (y' := ((bytesN (insE ⟨xk, xq, xd, xv⟩ L) : Nat) : Int)) (by
      have e1 : ((insE ⟨xk, xq, xd, xv⟩ L).length : Int) = (L.length : Int) + 1 := by rw [insE_len]; omega
      have e2 : ((bytesN (insE ⟨xk, xq, xd, xv⟩ L) : Nat) : Int) = (bytesN L : Int) + ((xk.length : Int) + (xv.length : Int)) := by rw [bytesN_ins]; show ((xk.length + xv.length + bytesN L : Nat) : Int) = _; omega
      rw [e1, e2]; exact o11) (s10.trans s11)
    have hfp : ∀ i, fpP s v' (A ++ p :: C) i → U i ∨ B.val h.next ≤ B.val i := fun i hi2 => by
      rcases p6 i hi2 with h12 | h12
      · exact .inl ((e7 i).2 (by rw [hP]; exact h12))
      · exact .inr (Nat.le_trans s08.next h12)
    refine ⟨rfl, fpP s v' (A ++ p :: C), ⟨s, v', K', A ++ p :: C, rfl, ?_, M11, fun q hq => ?_, p5, insE_all e5 hi, insE_sorted e6 hhas, fun i => Iff.rfl⟩, hfp, ?_⟩
    · rw [hins, List.map_append, List.map_cons, p1]
    · rcases List.mem_append.1 hq with h12 | h12
      · exact e3 q (by rw [hP]; simp [h12])
      · rcases List.mem_cons.1 h12 with h12 | h12
        · rw [h12]; exact p2
        · exact e3 q (by rw [hP]; simp [h12])
    · have hUs : U s := (e7 s).2 (.inl rfl)
      refine stay_past (stay_past (stay_past (s08.mono fun _ _ e => e.elim) s9 fun i e => ?_) s10 fun i e => .inl (by rw [e]; exact hUs)) s11 fun i e => .inl (by rw [e]; exact hUs)
      rcases e with e | e
      · exact .inl ((e7 i).2 (by rw [hP]; exact e))
      · exact .inr (Nat.le_trans s02.next (how i e))
  · have hC1 : C1 = [] := List.eq_nil_iff_forall_not_mem.2 fun c hc => by
      have := e3 c (by rw [hP, c1]; simp [hc]); have := c2 c hc; omega
    subst hC1
    rw [List.nil_append] at c1
    have oq := (M3.chn A q C2 (by rw [hP, c1])).1
    unfold plC entC at oq
    have oqr := oq.row
    have hql : lessE q.e ⟨xk, xq, xd, xv⟩ = false := hC q (by rw [c1]; simp)
    repeat' (first
      | refine St.h ?_
      | simp (disch := first | omega | (simp only [lnv]; omega)) only [wlk, ↓get_put', ↓reduceIte, seval, c4, ptP, or_ptr, h2_ptr00, h2_ptr10, or3.ln, oqr.ln]
      | (with_reducible (first | apply cd_split | apply gd_split)) <;> (intro hc; (try simp only [hcn] at hc); (try simp only [hc]); (try simp only [hcl] at hc); try omega))
    refine CL.stay (less_ok (a := ⟨xk, xq, xd, xv⟩) (b := q.e) hf3) fun h4 s4 => ?_
    have hf4 := s4.fl hf3
    have s04 := s03.trans s4
    have o4 := o3.stay s4 fun e => e
    have or4 := o4.row
    have aw4 := aw.stay s4 fun _ _ e => e
    cases hl2 : lessE ⟨xk, xq, xd, xv⟩ q.e with
    | false =>
      have hhas : hasE L ⟨xk, xq, xd, xv⟩ = true := hasE_mem.2 ⟨q.e, by rw [hLn, c1]; simp, by
        by_cases hh : q.e.key = xk ∧ q.e.seq = xq
        · exact hh
        · rcases lessE_tot (b := ⟨xk, xq, xd, xv⟩) hh with e | e
          · rw [hql] at e; cases e
          · rw [hl2] at e; cases e⟩
      repeat' (first
        | refine St.h ?_
        | simp (disch := first | omega | (simp only [lnv]; omega)) only [wlk, ↓get_put', ↓reduceIte, seval]
        | (with_reducible (first | apply cd_split | apply gd_split)) <;> (intro hc; (try simp only [hcn] at hc); (try simp only [hc]); (try simp only [hcl] at hc); try omega))
      subst hQ
      rw [putE_has hhas]
      exact ⟨rfl, U, a0.stay s04 fun _ _ e => e, fun i e => .inl e, s04.mono fun _ _ e => e.elim⟩
    | true =>
    have hhas : hasE L ⟨xk, xq, xd, xv⟩ = false := has_low fun e he => by
      rw [hLn] at he
      rcases List.mem_append.1 he with he | he
      · obtain ⟨a, ha, rfl⟩ := List.mem_map.1 he
        exact .inl (hA a ha)
      · obtain ⟨c, hc, rfl⟩ := List.mem_map.1 he
        rw [c1] at hc
        rcases List.mem_cons.1 hc with h9 | h9
        · rw [h9]; exact .inr hl2
        · exact .inr (lessE_trans hl2 (key c1 c h9))
    have hins := ins_mid (x := ⟨xk, xq, xd, xv⟩) (C := C) hA (.inr ⟨q, C2, c1, hl2⟩)
    rw [← hP, ← e2] at hins
    repeat' (first
      | refine St.h ?_
      | simp (disch := first | omega | (simp only [lnv]; omega)) only [wlk, ↓get_put', ↓reduceIte, seval, or4.l1]
      | (with_reducible (first | apply cd_split | apply gd_split)) <;> (intro hc; (try simp only [hcn] at hc); (try simp only [hc]); (try simp only [hcl] at hc); try omega))
    have hput : putE L ⟨xk, xq, xd, xv⟩ = (insE ⟨xk, xq, xd, xv⟩ L, true) := putE_ok hi hhas
    refine CL.stayU (clone_ok (by omega) (re_fl _)) fun h5 s5 => ?_
    have hf5 := s5.fl hf4
    have o5 := o4.stay s5 fun e => e
    have or5 := o5.row
    repeat' (first
      | refine St.h ?_
      | simp (disch := first | omega | (simp only [lnv]; omega)) only [wlk, ↓get_put', ↓reduceIte, seval, or5.l1]
      | (with_reducible (first | apply cd_split | apply gd_split)) <;> (intro hc; (try simp only [hcn] at hc); (try simp only [hc]); (try simp only [hcl] at hc); try omega))
    refine CL.stay (clone_ok (by omega) hf5) fun h6 s6 => ?_
    have hf6 := s6.fl hf5
    have o6 := o5.stay s6 fun e => e
    repeat' (first
      | refine St.h ?_
      | simp (disch := first | omega | (simp only [lnv]; omega)) only [wlk, ↓get_put', ↓reduceIte, seval]
      | (with_reducible (first | apply cd_split | apply gd_split)) <;> (intro hc; (try simp only [hcn] at hc); (try simp only [hc]); (try simp only [hcl] at hc); try omega))
    refine ST.own o6 rfl rfl (by omega) (by omega) fun h7 o7 s7 => ?_
    have hf7 := s7.fl hf6
    repeat' (first
      | refine St.h ?_
      | simp (disch := first | omega | (simp only [lnv]; omega)) only [wlk, ↓get_put', ↓reduceIte, seval]
      | (with_reducible (first | apply cd_split | apply gd_split)) <;> (intro hc; (try simp only [hcn] at hc); (try simp only [hc]); (try simp only [hcl] at hc); try omega))
    refine ST.own o7 rfl rfl (by omega) (by omega) fun h8 o8 s8 => ?_
    have hf8 := s8.fl hf7
    have or8 := o8.row
    have s08 : Stay nowhere h h8 := (((s04.trans s5).trans s6).past' s7 fun i e => by rw [e]; exact Nat.le_refl _).past' s8 fun i e => by rw [e]; exact Nat.le_refl _
    have M8 := M.grow s08
    rw [hP] at M8
    have aw8 := ((((aw4.stay s5 fun _ _ e => e).stay s6 fun _ _ e => e).stay s7 fun i e e2 => hno i e e2).stay s8 fun i e e2 => hno i e e2)
    repeat' (first
      | refine St.h ?_
      | simp (disch := first | omega | (simp only [lnv]; omega)) only [wlk, ↓get_put', ↓reduceIte, seval, or8.ln]
      | (with_reducible (first | apply cd_split | apply gd_split)) <;> (intro hc; (try simp only [hcn] at hc); (try simp only [hc]); (try simp only [hcl] at hc); try omega))
    refine CL.mk (link_ok (x := ⟨xk, xq, xd, xv⟩) M8 (by show xk.length ≤ 1000000; omega) aw8 (fun i e e2 => ?_) (fun i e => aw8.lt e) e4 hf8) ?_
    · have h10 := how i e
      have h11 := M.lt i (by rw [hP]; exact e2)
      have h12 := s02.next
      omega
    rintro _ h9 ⟨v', K', p, p1, p2, p3, p4, p5, M9, p6, s9⟩
    have hf9 := s9.fl hf8
    have or9 := M9.own.row
    repeat' (first
      | refine St.h ?_
      | simp (disch := first | omega | (simp only [lnv]; omega)) only [wlk, ↓get_put', ↓reduceIte, seval, or9.l1]
      | (with_reducible (first | apply cd_split | apply gd_split)) <;> (intro hc; (try simp only [hcn] at hc); (try simp only [hc]); (try simp only [hcl] at hc); try omega))
    refine ST.own M9.own rfl rfl (by omega) (by omega) fun h10 o10 s10 => ?_
    have or10 := o10.row
    have o10' : Ev.Own h10 h.next [sv xk, .i .i64 xq, .b xd, sv xv] := by
      refine ((o8.stay s9 ?_).stay s10 fun e => ?_)
      · rintro (e | e)
        · have := M.lt _ (by rw [hP]; exact e); omega
        · exact hno _ e rfl
      · have e : h.next = s := e
        have := own_lt' M.own
        rw [← e] at this; omega
    have or10' := o10'.row
    repeat' (first
      | refine St.h ?_
      | simp (disch := first | omega | (simp only [lnv]; omega)) only [wlk, ↓get_put', ↓reduceIte, seval, or10.l1, or10'.l1]
      | (with_reducible (first | apply cd_split | apply gd_split)) <;> (intro hc; (try simp only [hcn] at hc); (try simp only [hc]); (try simp only [hcl] at hc); try omega))
    refine ST.own o10 rfl rfl (by omega) (by omega) fun h11 o11 s11 => ?_
    repeat' (first
      | refine St.h ?_
      | simp (disch := first | omega | (simp only [lnv]; omega)) only [wlk, ↓get_put', ↓reduceIte, seval]
      | (with_reducible (first | apply cd_split | apply gd_split)) <;> (intro hc; (try simp only [hcn] at hc); (try simp only [hc]); (try simp only [hcl] at hc); try omega))
    subst hQ
    rw [hput]
    have M11 := M9.cnt (n' := ((insE ⟨xk, xq, xd, xv⟩ L).length : Nat)) (y' := ((bytesN (insE ⟨xk, xq, xd, xv⟩ L) : Nat) : Int)) (by
      have e1 : ((insE ⟨xk, xq, xd, xv⟩ L).length : Int) = (L.length : Int) + 1 := by rw [insE_len]; omega
      have e2 : ((bytesN (insE ⟨xk, xq, xd, xv⟩ L) : Nat) : Int) = (bytesN L : Int) + ((xk.length : Int) + (xv.length : Int)) := by rw [bytesN_ins]; show ((xk.length + xv.length + bytesN L : Nat) : Int) = _; omega
      rw [e1, e2]; exact o11) (s10.trans s11)
    have hfp : ∀ i, fpP s v' (A ++ p :: C) i → U i ∨ B.val h.next ≤ B.val i := fun i hi2 => by
      rcases p6 i hi2 with h12 | h12
      · exact .inl ((e7 i).2 (by rw [hP]; exact h12))
      · exact .inr (Nat.le_trans s08.next h12)
    refine ⟨rfl, fpP s v' (A ++ p :: C), ⟨s, v', K', A ++ p :: C, rfl, ?_, M11, fun q hq => ?_, p5, insE_all e5 hi, insE_sorted e6 hhas, fun i => Iff.rfl⟩, hfp, ?_⟩
    · rw [hins, List.map_append, List.map_cons, p1]
    · rcases List.mem_append.1 hq with h12 | h12
      · exact e3 q (by rw [hP]; simp [h12])
      · rcases List.mem_cons.1 h12 with h12 | h12
        · rw [h12]; exact p2
        · exact e3 q (by rw [hP]; simp [h12])
    · have hUs : U s := (e7 s).2 (.inl rfl)
      refine stay_past (stay_past (stay_past (s08.mono fun _ _ e => e.elim) s9 fun i e => ?_) s10 fun i e => .inl (by rw [e]; exact hUs)) s11 fun i e => .inl (by rw [e]; exact hUs)
      rcases e with e | e
      · exact .inl ((e7 i).2 (by rw [hP]; exact e))
      · exact .inr (Nat.le_trans s02.next (how i e))
theorem known10 {h : H} : FnOk Try.prog 8 [] h fun y h' => y = .b true ∧ h' = h := FnOk.of_pure ravelinlaw10.known_pure h
end Go.Proofs.Ytcaoeoeeaaeieaa

set_option maxRecDepth 100000
set_option maxHeartbeats 8000000
set_option linter.all false
namespace Go.Proofs.Ytcaoeoeeaaeieaa
open Go Go.Ev
theorem few_len {L : List Ent} (h : fewE L = true) : L.length ≤ 60 ∧ ∀ e ∈ L, e.key.length ≤ 20 ∧ e.val.length ≤ 40 := by
  unfold fewE at h
  rw [Bool.and_eq_true] at h
  refine ⟨of_decide_eq_true h.2, fun e he => ?_⟩
  have := (List.all_eq_true.1 h.1) e he
  unfold okE at this
  rw [Bool.and_eq_true] at this
  exact ⟨of_decide_eq_true this.1, of_decide_eq_true this.2⟩
end Go.Proofs.Ytcaoeoeeaaeieaa

set_option maxRecDepth 1000000
set_option linter.all false
namespace Go.Proofs.Ytcaoeoeeaaeieaa
open Go Go.Ev
noncomputable abbrev s8_0 : CC := (CC.seq (CC.region [(wB 0 (doMove (O.c (V.b Bool.false))))]) CC.ret)
noncomputable abbrev s8_1 : CC := (CC.cond (tm 12) s8_0 CC.skip)
noncomputable abbrev s8_2 : CC := (CC.seq (CC.region [(wB 11 (doMove (tm 1))), (wB 12 (doPtr Bool.false (tm 11) (O.c V.p0)))]) s8_1)
noncomputable abbrev s8_3 : CC := (CC.seq (CC.region [(wB 37 (doMove (tm 2))), (wB 38 (doMove (tm 37))), (wG 38 true 39 (doMove (tm 3))), (wB 40 (doPick (tm 38) (tm 39) (O.c (V.b Bool.false)))), (wB 41 (doMove (tm 40))), (wG 41 true 42 (doMove (tm 4))), (wG 41 true 43 (doNot (tm 42))), (wB 44 (doPick (tm 41) (tm 43) (O.c (V.b Bool.false)))), (wB 45 (doMove (tm 44))), (wG 45 true 46 (doMove (tm 1))), (wG 45 true 47 (doCall 20 [(tm 46)])), (wG 45 true 48 (bin2 fEql (tm 47) (oN 2))), (wB 49 (doPick (tm 45) (tm 48) (O.c (V.b Bool.false)))), (wB 50 (doMove (tm 49))), (wG 50 true 51 (doMove (tm 5))), (wG 50 true 52 (doCall 20 [(tm 51)])), (wG 50 true 53 (bin2 fEql (tm 52) (oN 3))), (wB 54 (doPick (tm 50) (tm 53) (O.c (V.b Bool.false)))), (wB 55 (doMove (tm 54))), (wG 55 true 56 (doMove (tm 1))), (wG 55 true 57 (doCall 21 [(tm 56)])), (wG 55 true 58 (bin2 fEql (tm 57) (oN 4))), (wB 59 (doPick (tm 55) (tm 58) (O.c (V.b Bool.false)))), (wB 60 (doMove (tm 59))), (wG 60 true 61 (doMove (tm 7))), (wB 62 (doPick (tm 60) (tm 61) (O.c (V.b Bool.false)))), (wB 63 (doMove (tm 62))), (wG 63 true 64 (doFieldAddr 3 (tm 6))), (wG 63 true 65 (doLoad (tm 64))), (wG 63 true 66 (doSCmp eqS (tm 65) (O.c (V.s 2 30841)))), (wB 67 (doPick (tm 63) (tm 66) (O.c (V.b Bool.false)))), (wB 68 (doMove (tm 67))), (wG 68 true 69 (doMove (tm 9))), (wG 68 true 70 (doNot (tm 69))), (wB 71 (doPick (tm 68) (tm 70) (O.c (V.b Bool.false)))), (wB 72 (doMove (tm 71))), (wG 72 true 73 (doMove (tm 1))), (wG 72 true 74 (doCall 17 [(tm 73)])), (wG 72 true 75 (doLen (tm 74))), (wG 72 true 76 (bin2 fEql (tm 75) (oN 2))), (wB 77 (doPick (tm 72) (tm 76) (O.c (V.b Bool.false)))), (wB 78 (doMove (tm 77))), (wG 78 true 79 (doMove (tm 1))), (wG 78 true 80 (doCall 17 [(tm 79)])), (wG 78 true 81 (doIndexAddr 4 (tm 80) (oN 0))), (wG 78 true 82 (doFieldAddr 0 (tm 81))), (wG 78 true 83 (doLoad (tm 82))), (wG 78 true 84 (doSCmp eqS (tm 83) (O.c (V.s 1 97)))), (wB 85 (doPick (tm 78) (tm 84) (O.c (V.b Bool.false)))), (wB 86 (doMove (tm 85))), (wG 86 true 87 (doMove (tm 1))), (wG 86 true 88 (doCall 18 [(tm 87), (O.c (V.s 1 98)), (O.c (V.s 0 0))])), (wG 86 true 89 (doLen (tm 88))), (wG 86 true 90 (bin2 fEql (tm 89) (oN 1))), (wB 91 (doPick (tm 86) (tm 90) (O.c (V.b Bool.false)))), (wB 0 (doMove (tm 91)))]) CC.ret)
noncomputable abbrev s8_4 : CC := (CC.seq (CC.region [(wB 33 (doMove (tm 1))), (wB 34 (doCall 14 [(tm 33), (O.c (V.s 1 98)), (oN 0)])), (wB 32 (doMove (tm 34))), (wB 35 (doExtract 0 (tm 32))), (wB 36 (doExtract 1 (tm 32))), (wB 8 (doAlloc 29 [(V.s 0 0), (V.i IntKind.i64 (Int.ofNat 0)), (V.b Bool.false), (V.s 0 0)])), (CO.mk G.none D.none Bool.true (CR.mk (doStore 4 (tm 8) (tm 35)))), (wB 9 (doMove (tm 36)))]) s8_3)
noncomputable abbrev s8_5 : CC := (CC.seq (CC.region [(wB 28 (doMove (tm 1))), (wB 29 (doCall 14 [(tm 28), (O.c (V.s 1 98)), (oN 5)])), (wB 27 (doMove (tm 29))), (wB 30 (doExtract 0 (tm 27))), (wB 31 (doExtract 1 (tm 27))), (wB 6 (doAlloc 29 [(V.s 0 0), (V.i IntKind.i64 (Int.ofNat 0)), (V.b Bool.false), (V.s 0 0)])), (CO.mk G.none D.none Bool.true (CR.mk (doStore 4 (tm 6) (tm 30)))), (wB 7 (doMove (tm 31)))]) s8_4)
noncomputable abbrev s8_6 : CC := (CC.seq (CC.region [(wB 24 (doMove (tm 5))), (wB 25 (doBuild [(V.s 0 0), (V.i IntKind.i64 (Int.ofNat 0)), (V.b Bool.false), (V.s 0 0)] [(Pt.mk 0 1 (O.c (V.s 1 99))), (Pt.mk 1 1 (oN 1))])), (wB 26 (doCall 12 [(tm 24), (tm 25)]))]) s8_5)
noncomputable abbrev s8_7 : CC := (CC.seq (CC.region [(wB 22 (doMove (tm 1))), (wB 23 (doCall 11 [(tm 22)])), (wB 5 (doMove (tm 23)))]) s8_6)
noncomputable abbrev s8_8 : CC := (CC.seq (CC.region [(wB 19 (doMove (tm 1))), (wB 20 (doBuild [(V.s 0 0), (V.i IntKind.i64 (Int.ofNat 0)), (V.b Bool.false), (V.s 0 0)] [(Pt.mk 0 1 (O.c (V.s 1 97))), (Pt.mk 1 1 (oN 2)), (Pt.mk 3 1 (O.c (V.s 1 122)))])), (wB 21 (doCall 12 [(tm 19), (tm 20)])), (wB 4 (doMove (tm 21)))]) s8_7)
noncomputable abbrev s8_9 : CC := (CC.seq (CC.region [(wB 16 (doMove (tm 1))), (wB 17 (doBuild [(V.s 0 0), (V.i IntKind.i64 (Int.ofNat 0)), (V.b Bool.false), (V.s 0 0)] [(Pt.mk 0 1 (O.c (V.s 1 97))), (Pt.mk 1 1 (oN 2))])), (wB 18 (doCall 12 [(tm 16), (tm 17)])), (wB 3 (doMove (tm 18)))]) s8_8)
noncomputable abbrev s8_10 : CC := (CC.seq (CC.region [(wB 13 (doMove (tm 1))), (wB 14 (doBuild [(V.s 0 0), (V.i IntKind.i64 (Int.ofNat 0)), (V.b Bool.false), (V.s 0 0)] [(Pt.mk 0 1 (O.c (V.s 1 98))), (Pt.mk 1 1 (oN 1)), (Pt.mk 3 1 (O.c (V.s 2 30841)))])), (wB 15 (doCall 12 [(tm 13), (tm 14)])), (wB 2 (doMove (tm 15)))]) s8_9)
noncomputable abbrev s8_11 : CC := (CC.seq s8_2 s8_10)
noncomputable abbrev s8_12 : CC := (CC.seq (CC.region [(wB 10 (doCall 10 [])), (wB 1 (doMove (tm 10)))]) s8_11)
noncomputable abbrev b8 : CC := (CC.seq (CC.region [(wB 0 (doMove (O.c (V.b Bool.false))))]) s8_12)
noncomputable abbrev s3_0 : CC := (CC.seq (CC.region [(wB 10 (doMove (O.c (V.b Bool.false))))]) CC.ret)
noncomputable abbrev s3_1 : CC := (CC.cond (tm 25) s3_0 CC.skip)
noncomputable abbrev s3_2 : CC := (CC.seq (CC.region [(wB 24 (doCall 8 [])), (wB 25 (doNot (tm 24)))]) s3_1)
noncomputable abbrev s3_3 : CC := (CC.seq (CC.region [(wB 10 (doMove (O.c (V.b Bool.true))))]) CC.ret)
noncomputable abbrev s3_4 : CC := (CC.cond (tm 43) s3_3 CC.skip)
noncomputable abbrev s3_5 : CC := (CC.seq (CC.region [(wB 26 (doMove (tm 0))), (wB 27 (doCall 9 [(tm 26)])), (wB 28 (doNot (tm 27))), (wB 29 (doMove (tm 28))), (wG 29 false 30 (doMove (tm 1))), (wG 29 false 31 (doLenS (tm 30))), (wG 29 false 32 (bin2 fGtr (tm 31) (oN 20))), (wB 33 (doPick (tm 29) (O.c (V.b Bool.true)) (tm 32))), (wB 34 (doMove (tm 33))), (wG 34 false 35 (doMove (tm 3))), (wG 34 false 36 (doLenS (tm 35))), (wG 34 false 37 (bin2 fGtr (tm 36) (oN 20))), (wB 38 (doPick (tm 34) (O.c (V.b Bool.true)) (tm 37))), (wB 39 (doMove (tm 38))), (wG 39 false 40 (doMove (tm 4))), (wG 39 false 41 (doLenS (tm 40))), (wG 39 false 42 (bin2 fGtr (tm 41) (oN 20))), (wB 43 (doPick (tm 39) (O.c (V.b Bool.true)) (tm 42)))]) s3_4)
noncomputable abbrev s3_6 : CC := (CC.cond (tm 48) CC.skip (CC.exit 0))
noncomputable abbrev s3_7 : CC := (CC.seq (CC.region [(wB 45 (doMove (tm 13))), (wB 46 (doMove (tm 0))), (wB 47 (doLen (tm 46))), (wB 48 (bin2 fLss (tm 45) (tm 47)))]) s3_6)
noncomputable abbrev s3_8 : CC := (CC.cond (tm 90) CC.skip (CC.exit 2))
noncomputable abbrev s3_9 : CC := (CC.seq (CC.region [(wB 87 (doMove (tm 23))), (wB 88 (doMove (tm 12))), (wB 89 (doLen (tm 88))), (wB 90 (bin2 fLss (tm 87) (tm 89)))]) s3_8)
noncomputable abbrev s3_10 : CC := (CC.draws [(uB 93 (doMove (tm 22))), (uB 94 (doMove (tm 12))), (uB 95 (doMove (tm 23))), (uB 96 (doIndexAddr 4 (tm 94) (tm 95))), (uB 97 (doFieldAddr 0 (tm 96))), (uB 98 (doLoad (tm 97))), (uB 99 (doLenS (tm 98))), (uB 100 (bin2 fAdd (tm 93) (tm 99))), (uB 101 (doMove (tm 12))), (uB 102 (doMove (tm 23))), (uB 103 (doIndexAddr 4 (tm 101) (tm 102))), (uB 104 (doFieldAddr 3 (tm 103))), (uB 105 (doLoad (tm 104))), (uB 106 (doLenS (tm 105))), (uB 107 (bin2 fAdd (tm 100) (tm 106))), (uB 22 (doMove (tm 107)))])
noncomputable abbrev s3_11 : CC := (CC.block 3 s3_10)
noncomputable abbrev s3_12 : CC := (CC.region [(wB 91 (doMove (tm 23))), (wB 92 (bin2 fAdd (tm 91) (oN 1))), (wB 23 (doMove (tm 92)))])
noncomputable abbrev s3_13 : CC := (CC.seq s3_11 s3_12)
noncomputable abbrev l3_0 : CC := (CC.seq s3_9 s3_13)
noncomputable abbrev s3_14 : CC := (CC.loop l3_0)
noncomputable abbrev s3_15 : CC := (CC.block 2 s3_14)
noncomputable abbrev s3_16 : CC := (CC.seq (CC.region [(wB 23 (doMove (oN 0)))]) s3_15)
noncomputable abbrev s3_17 : CC := (CC.seq (CC.region [(wB 10 (doMove (O.c (V.b Bool.false))))]) CC.ret)
noncomputable abbrev s3_18 : CC := (CC.cond (tm 152) s3_17 CC.skip)
noncomputable abbrev s3_19 : CC := (CC.seq (CC.region [(wB 108 (doMove (tm 15))), (wB 109 (doMove (tm 17))), (wB 110 (doBool Bool.true (tm 108) (tm 109))), (wB 111 (doMove (tm 110))), (wG 111 false 112 (doLoadA 4 (tm 18))), (wG 111 false 113 (doLoadA 4 (tm 20))), (wG 111 false 114 (doSEq [KD.s, KD.i, KD.b, KD.s] Bool.true (tm 112) (tm 113))), (wB 115 (doPick (tm 111) (O.c (V.b Bool.true)) (tm 114))), (wB 116 (doMove (tm 115))), (wG 116 false 117 (doMove (tm 19))), (wG 116 false 118 (doMove (tm 21))), (wG 116 false 119 (doBool Bool.true (tm 117) (tm 118))), (wB 120 (doPick (tm 116) (O.c (V.b Bool.true)) (tm 119))), (wB 121 (doMove (tm 120))), (wG 121 false 122 (doMove (tm 11))), (wG 121 false 123 (doCall 17 [(tm 122)])), (wG 121 false 124 (doMove (tm 12))), (wG 121 false 125 (doCall 16 [(tm 123), (tm 124)])), (wG 121 false 126 (doNot (tm 125))), (wB 127 (doPick (tm 121) (O.c (V.b Bool.true)) (tm 126))), (wB 128 (doMove (tm 127))), (wG 128 false 129 (doMove (tm 11))), (wG 128 false 130 (doMove (tm 3))), (wG 128 false 131 (doMove (tm 4))), (wG 128 false 132 (doCall 18 [(tm 129), (tm 130), (tm 131)])), (wG 128 false 133 (doMove (tm 12))), (wG 128 false 134 (doMove (tm 3))), (wG 128 false 135 (doMove (tm 4))), (wG 128 false 136 (doCall 19 [(tm 133), (tm 134), (tm 135)])), (wG 128 false 137 (doCall 16 [(tm 132), (tm 136)])), (wG 128 false 138 (doNot (tm 137))), (wB 139 (doPick (tm 128) (O.c (V.b Bool.true)) (tm 138))), (wB 140 (doMove (tm 139))), (wG 140 false 141 (doMove (tm 11))), (wG 140 false 142 (doCall 20 [(tm 141)])), (wG 140 false 143 (doMove (tm 12))), (wG 140 false 144 (doLen (tm 143))), (wG 140 false 145 (bin2 fNeq (tm 142) (tm 144))), (wB 146 (doPick (tm 140) (O.c (V.b Bool.true)) (tm 145))), (wB 147 (doMove (tm 146))), (wG 147 false 148 (doMove (tm 11))), (wG 147 false 149 (doCall 21 [(tm 148)])), (wG 147 false 150 (doMove (tm 22))), (wG 147 false 151 (bin2 fNeq (tm 149) (tm 150))), (wB 152 (doPick (tm 147) (O.c (V.b Bool.true)) (tm 151)))]) s3_18)
noncomputable abbrev s3_20 : CC := (CC.seq s3_16 s3_19)
noncomputable abbrev s3_21 : CC := (CC.seq (CC.region [(wB 22 (doMove (oN 0)))]) s3_20)
noncomputable abbrev s3_22 : CC := (CC.seq (CC.region [(wB 81 (doMove (tm 12))), (wB 82 (doMove (tm 1))), (wB 83 (doMove (tm 2))), (wB 84 (doCall 15 [(tm 81), (tm 82), (tm 83)])), (wB 80 (doMove (tm 84))), (wB 85 (doExtract 0 (tm 80))), (wB 86 (doExtract 1 (tm 80))), (wB 20 (doAlloc 29 [(V.s 0 0), (V.i IntKind.i64 (Int.ofNat 0)), (V.b Bool.false), (V.s 0 0)])), (CO.mk G.none D.none Bool.true (CR.mk (doStore 4 (tm 20) (tm 85)))), (wB 21 (doMove (tm 86)))]) s3_21)
noncomputable abbrev s3_23 : CC := (CC.seq (CC.region [(wB 74 (doMove (tm 11))), (wB 75 (doMove (tm 1))), (wB 76 (doMove (tm 2))), (wB 77 (doCall 14 [(tm 74), (tm 75), (tm 76)])), (wB 73 (doMove (tm 77))), (wB 78 (doExtract 0 (tm 73))), (wB 79 (doExtract 1 (tm 73))), (wB 18 (doAlloc 29 [(V.s 0 0), (V.i IntKind.i64 (Int.ofNat 0)), (V.b Bool.false), (V.s 0 0)])), (CO.mk G.none D.none Bool.true (CR.mk (doStore 4 (tm 18) (tm 78)))), (wB 19 (doMove (tm 79)))]) s3_22)
noncomputable abbrev s3_24 : CC := (CC.seq (CC.region [(wB 72 (doMove (tm 16))), (wB 12 (doMove (tm 72)))]) s3_23)
noncomputable abbrev s3_25 : CC := (CC.seq (CC.region [(wB 64 (doMove (tm 12))), (wB 65 (doMove (tm 0))), (wB 66 (doMove (tm 13))), (wB 67 (doIndexAddr 4 (tm 65) (tm 66))), (wB 68 (doLoadA 4 (tm 67))), (wB 69 (doCall 13 [(tm 64), (tm 68)])), (wB 63 (doMove (tm 69))), (wB 70 (doExtract 0 (tm 63))), (wB 71 (doExtract 1 (tm 63))), (wB 16 (doMove (tm 70))), (wB 17 (doMove (tm 71)))]) s3_24)
noncomputable abbrev s3_26 : CC := (CC.seq (CC.region [(wB 57 (doMove (tm 11))), (wB 58 (doMove (tm 0))), (wB 59 (doMove (tm 13))), (wB 60 (doIndexAddr 4 (tm 58) (tm 59))), (wB 61 (doLoadA 4 (tm 60))), (wB 62 (doCall 12 [(tm 57), (tm 61)])), (wB 15 (doMove (tm 62)))]) s3_25)
noncomputable abbrev s3_27 : CC := (CC.seq (CC.region [(wB 54 (doMove (tm 14))), (wB 55 (doBuild [(V.s 0 0), (V.i IntKind.i64 (Int.ofNat 0)), (V.b Bool.false), (V.s 0 0)] [(Pt.mk 0 1 (O.c (V.s 5 478694368626))), (Pt.mk 1 1 (oN 7))])), (wB 56 (doCall 12 [(tm 54), (tm 55)]))]) s3_26)
noncomputable abbrev s3_28 : CC := (CC.seq (CC.region [(wB 52 (doMove (tm 11))), (wB 53 (doCall 11 [(tm 52)])), (wB 11 (doMove (tm 53)))]) s3_27)
noncomputable abbrev s3_29 : CC := (CC.seq (CC.region [(wB 51 (doMove (tm 11))), (wB 14 (doMove (tm 51)))]) s3_28)
noncomputable abbrev s3_30 : CC := (CC.block 1 s3_29)
noncomputable abbrev s3_31 : CC := (CC.region [(wB 49 (doMove (tm 13))), (wB 50 (bin2 fAdd (tm 49) (oN 1))), (wB 13 (doMove (tm 50)))])
noncomputable abbrev s3_32 : CC := (CC.seq s3_30 s3_31)
noncomputable abbrev l3_1 : CC := (CC.seq s3_7 s3_32)
noncomputable abbrev s3_33 : CC := (CC.loop l3_1)
noncomputable abbrev s3_34 : CC := (CC.block 0 s3_33)
noncomputable abbrev s3_35 : CC := (CC.seq (CC.region [(wB 13 (doMove (oN 0)))]) s3_34)
noncomputable abbrev s3_36 : CC := (CC.seq (CC.region [(wB 153 (doMove (tm 11))), (wB 154 (doCall 20 [(tm 153)])), (wB 155 (doMove (tm 12))), (wB 156 (doLen (tm 155))), (wB 157 (bin2 fEql (tm 154) (tm 156))), (wB 10 (doMove (tm 157)))]) CC.ret)
noncomputable abbrev s3_37 : CC := (CC.seq s3_35 s3_36)
noncomputable abbrev s3_38 : CC := (CC.seq (CC.region [(wB 12 (doMove (O.c V.l0)))]) s3_37)
noncomputable abbrev s3_39 : CC := (CC.seq (CC.region [(wB 44 (doCall 10 [])), (wB 11 (doMove (tm 44)))]) s3_38)
noncomputable abbrev s3_40 : CC := (CC.seq s3_5 s3_39)
noncomputable abbrev s3_41 : CC := (CC.seq s3_2 s3_40)
noncomputable abbrev b3 : CC := (CC.seq (CC.region [(wB 10 (doMove (O.c (V.b Bool.false))))]) s3_41)
theorem c3 : compFn Try.prog 3 = ⟨158, b3, [(Rs.tmp (slOf 10))]⟩ := by kernel_rfl
noncomputable abbrev s4_0 : CC := (CC.seq (CC.region [(wB 4 (doMove (O.c (V.b Bool.false))))]) CC.ret)
noncomputable abbrev s4_1 : CC := (CC.cond (tm 14) s4_0 CC.skip)
noncomputable abbrev s4_2 : CC := (CC.seq (CC.region [(wB 13 (doCall 8 [])), (wB 14 (doNot (tm 13)))]) s4_1)
noncomputable abbrev s4_3 : CC := (CC.seq (CC.region [(wB 4 (doMove (O.c (V.b Bool.true))))]) CC.ret)
noncomputable abbrev s4_4 : CC := (CC.cond (tm 22) s4_3 CC.skip)
noncomputable abbrev s4_5 : CC := (CC.seq (CC.region [(wB 15 (doMove (tm 0))), (wB 16 (doCall 9 [(tm 15)])), (wB 17 (doNot (tm 16))), (wB 18 (doMove (tm 17))), (wG 18 false 19 (doMove (tm 0))), (wG 18 false 20 (doLen (tm 19))), (wG 18 false 21 (bin2 fEql (tm 20) (oN 0))), (wB 22 (doPick (tm 18) (O.c (V.b Bool.true)) (tm 21)))]) s4_4)
noncomputable abbrev s4_6 : CC := (CC.cond (tm 33) CC.skip (CC.exit 0))
noncomputable abbrev s4_7 : CC := (CC.seq (CC.region [(wB 30 (doMove (tm 8))), (wB 31 (doMove (tm 0))), (wB 32 (doLen (tm 31))), (wB 33 (bin2 fLss (tm 30) (tm 32)))]) s4_6)
noncomputable abbrev s4_8 : CC := (CC.cond (tm 44) CC.skip (CC.exit 2))
noncomputable abbrev s4_9 : CC := (CC.seq (CC.region [(wB 42 (doMove (tm 9))), (wB 43 (doMove (tm 8))), (wB 44 (bin2 fLss (tm 42) (tm 43)))]) s4_8)
noncomputable abbrev s4_10 : CC := (CC.seq (CC.region [(wB 4 (doMove (O.c (V.b Bool.true))))]) CC.ret)
noncomputable abbrev s4_11 : CC := (CC.cond (tm 70) s4_10 CC.skip)
noncomputable abbrev s4_12 : CC := (CC.seq (CC.draws [(uB 47 (doMove (tm 0))), (uB 48 (doMove (tm 9))), (uB 49 (doIndexAddr 4 (tm 47) (tm 48))), (uB 50 (doFieldAddr 0 (tm 49))), (uB 51 (doLoad (tm 50))), (uB 52 (doMove (tm 0))), (uB 53 (doMove (tm 8))), (uB 54 (doIndexAddr 4 (tm 52) (tm 53))), (uB 55 (doFieldAddr 0 (tm 54))), (uB 56 (doLoad (tm 55))), (uB 57 (doSCmp eqS (tm 51) (tm 56))), (uB 58 (doMove (tm 57))), (uG 58 true 59 (doMove (tm 0))), (uG 58 true 60 (doMove (tm 9))), (uG 58 true 61 (doIndexAddr 4 (tm 59) (tm 60))), (uG 58 true 62 (doFieldAddr 1 (tm 61))), (uG 58 true 63 (doLoad (tm 62))), (uG 58 true 64 (doMove (tm 0))), (uG 58 true 65 (doMove (tm 8))), (uG 58 true 66 (doIndexAddr 4 (tm 64) (tm 65))), (uG 58 true 67 (doFieldAddr 1 (tm 66))), (uG 58 true 68 (doLoad (tm 67))), (uG 58 true 69 (bin2 fEql (tm 63) (tm 68))), (uB 70 (doPick (tm 58) (tm 69) (O.c (V.b Bool.false))))]) s4_11)
noncomputable abbrev s4_13 : CC := (CC.block 3 s4_12)
noncomputable abbrev s4_14 : CC := (CC.region [(wB 45 (doMove (tm 9))), (wB 46 (bin2 fAdd (tm 45) (oN 1))), (wB 9 (doMove (tm 46)))])
noncomputable abbrev s4_15 : CC := (CC.seq s4_13 s4_14)
noncomputable abbrev l4_0 : CC := (CC.seq s4_9 s4_15)
noncomputable abbrev s4_16 : CC := (CC.loop l4_0)
noncomputable abbrev s4_17 : CC := (CC.block 2 s4_16)
noncomputable abbrev s4_18 : CC := (CC.seq (CC.region [(wB 9 (doMove (oN 0)))]) s4_17)
noncomputable abbrev s4_19 : CC := (CC.seq (CC.region [(wB 36 (doMove (tm 5))), (wB 37 (doMove (tm 0))), (wB 38 (doMove (tm 8))), (wB 39 (doIndexAddr 4 (tm 37) (tm 38))), (wB 40 (doLoadA 4 (tm 39))), (wB 41 (doCall 12 [(tm 36), (tm 40)]))]) s4_18)
noncomputable abbrev s4_20 : CC := (CC.block 1 s4_19)
noncomputable abbrev s4_21 : CC := (CC.region [(wB 34 (doMove (tm 8))), (wB 35 (bin2 fAdd (tm 34) (oN 1))), (wB 8 (doMove (tm 35)))])
noncomputable abbrev s4_22 : CC := (CC.seq s4_20 s4_21)
noncomputable abbrev l4_1 : CC := (CC.seq s4_7 s4_22)
noncomputable abbrev s4_23 : CC := (CC.loop l4_1)
noncomputable abbrev s4_24 : CC := (CC.block 0 s4_23)
noncomputable abbrev s4_25 : CC := (CC.seq (CC.region [(wB 8 (doMove (oN 0)))]) s4_24)
noncomputable abbrev s4_26 : CC := (CC.cond (tm 74) CC.skip (CC.exit 4))
noncomputable abbrev s4_27 : CC := (CC.seq (CC.region [(wB 71 (doMove (tm 10))), (wB 72 (doMove (tm 0))), (wB 73 (doLen (tm 72))), (wB 74 (bin2 fLss (tm 71) (tm 73)))]) s4_26)
noncomputable abbrev s4_28 : CC := (CC.region [(wB 77 (doMove (tm 6))), (wB 78 (doMove (tm 0))), (wB 79 (doMove (tm 10))), (wB 80 (doMove (tm 7))), (wB 81 (bin2 fAdd (tm 79) (tm 80))), (wB 82 (doMove (tm 0))), (wB 83 (doLen (tm 82))), (wB 84 (doRem (tm 81) (tm 83))), (wB 85 (doIndexAddr 4 (tm 78) (tm 84))), (wB 86 (doLoadA 4 (tm 85))), (wB 87 (doCall 12 [(tm 77), (tm 86)]))])
noncomputable abbrev s4_29 : CC := (CC.block 5 s4_28)
noncomputable abbrev s4_30 : CC := (CC.region [(wB 75 (doMove (tm 10))), (wB 76 (bin2 fAdd (tm 75) (oN 1))), (wB 10 (doMove (tm 76)))])
noncomputable abbrev s4_31 : CC := (CC.seq s4_29 s4_30)
noncomputable abbrev l4_2 : CC := (CC.seq s4_27 s4_31)
noncomputable abbrev s4_32 : CC := (CC.loop l4_2)
noncomputable abbrev s4_33 : CC := (CC.block 4 s4_32)
noncomputable abbrev s4_34 : CC := (CC.seq (CC.region [(wB 10 (doMove (oN 0)))]) s4_33)
noncomputable abbrev s4_35 : CC := (CC.cond (tm 93) CC.skip (CC.exit 6))
noncomputable abbrev s4_36 : CC := (CC.seq (CC.region [(wB 90 (doMove (tm 12))), (wB 91 (doMove (tm 11))), (wB 92 (doLen (tm 91))), (wB 93 (bin2 fLss (tm 90) (tm 92)))]) s4_35)
noncomputable abbrev s4_37 : CC := (CC.seq (CC.region [(wB 4 (doMove (O.c (V.b Bool.false))))]) CC.ret)
noncomputable abbrev s4_38 : CC := (CC.cond (tm 106) s4_37 CC.skip)
noncomputable abbrev s4_39 : CC := (CC.seq (CC.draws [(uB 96 (doMove (tm 11))), (uB 97 (doMove (tm 12))), (uB 98 (bin2 fSub (tm 97) (oN 1))), (uB 99 (doIndexAddr 4 (tm 96) (tm 98))), (uB 100 (doLoadA 4 (tm 99))), (uB 101 (doMove (tm 11))), (uB 102 (doMove (tm 12))), (uB 103 (doIndexAddr 4 (tm 101) (tm 102))), (uB 104 (doLoadA 4 (tm 103))), (wB 105 (doCall 22 [(tm 100), (tm 104)])), (uB 106 (doNot (tm 105)))]) s4_38)
noncomputable abbrev s4_40 : CC := (CC.block 7 s4_39)
noncomputable abbrev s4_41 : CC := (CC.region [(wB 94 (doMove (tm 12))), (wB 95 (bin2 fAdd (tm 94) (oN 1))), (wB 12 (doMove (tm 95)))])
noncomputable abbrev s4_42 : CC := (CC.seq s4_40 s4_41)
noncomputable abbrev l4_3 : CC := (CC.seq s4_36 s4_42)
noncomputable abbrev s4_43 : CC := (CC.loop l4_3)
noncomputable abbrev s4_44 : CC := (CC.block 6 s4_43)
noncomputable abbrev s4_45 : CC := (CC.seq (CC.region [(wB 12 (doMove (oN 1)))]) s4_44)
noncomputable abbrev s4_46 : CC := (CC.seq (CC.region [(wB 107 (doMove (tm 11))), (wB 108 (doMove (tm 6))), (wB 109 (doCall 17 [(tm 108)])), (wB 110 (doCall 16 [(tm 107), (tm 109)])), (wB 111 (doMove (tm 110))), (wG 111 true 112 (doMove (tm 5))), (wG 111 true 113 (doCall 21 [(tm 112)])), (wG 111 true 114 (doMove (tm 6))), (wG 111 true 115 (doCall 21 [(tm 114)])), (wG 111 true 116 (bin2 fEql (tm 113) (tm 115))), (wB 117 (doPick (tm 111) (tm 116) (O.c (V.b Bool.false)))), (wB 4 (doMove (tm 117)))]) CC.ret)
noncomputable abbrev s4_47 : CC := (CC.seq s4_45 s4_46)
noncomputable abbrev s4_48 : CC := (CC.seq (CC.region [(wB 88 (doMove (tm 5))), (wB 89 (doCall 17 [(tm 88)])), (wB 11 (doMove (tm 89)))]) s4_47)
noncomputable abbrev s4_49 : CC := (CC.seq s4_34 s4_48)
noncomputable abbrev s4_50 : CC := (CC.seq s4_25 s4_49)
noncomputable abbrev s4_51 : CC := (CC.seq (CC.region [(wB 25 (doMove (tm 1))), (wB 26 (doConv IntKind.i64 (tm 25))), (wB 27 (doMove (tm 0))), (wB 28 (doLen (tm 27))), (wB 29 (doRem (tm 26) (tm 28))), (wB 7 (doMove (tm 29)))]) s4_50)
noncomputable abbrev s4_52 : CC := (CC.seq (CC.region [(wB 23 (doCall 10 [])), (wB 24 (doCall 10 [])), (wB 5 (doMove (tm 23))), (wB 6 (doMove (tm 24)))]) s4_51)
noncomputable abbrev s4_53 : CC := (CC.seq s4_5 s4_52)
noncomputable abbrev s4_54 : CC := (CC.seq s4_2 s4_53)
noncomputable abbrev b4 : CC := (CC.seq (CC.region [(wB 4 (doMove (O.c (V.b Bool.false))))]) s4_54)
theorem c4 : compFn Try.prog 4 = ⟨118, b4, [(Rs.tmp (slOf 4))]⟩ := by kernel_rfl
noncomputable abbrev s5_0 : CC := (CC.seq (CC.region [(wB 4 (doMove (O.c (V.b Bool.false))))]) CC.ret)
noncomputable abbrev s5_1 : CC := (CC.cond (tm 12) s5_0 CC.skip)
noncomputable abbrev s5_2 : CC := (CC.seq (CC.region [(wB 11 (doCall 8 [])), (wB 12 (doNot (tm 11)))]) s5_1)
noncomputable abbrev s5_3 : CC := (CC.cond (tm 19) CC.skip (CC.exit 0))
noncomputable abbrev s5_4 : CC := (CC.seq (CC.region [(wB 17 (doMove (tm 7))), (wB 18 (doMove (tm 6))), (wB 19 (bin2 fLss (tm 17) (tm 18)))]) s5_3)
noncomputable abbrev s5_5 : CC := (CC.region [(wB 27 (doMove (tm 6))), (wB 28 (bin2 fSub (tm 27) (oN 1))), (wB 29 (doMove (tm 7))), (wB 30 (bin2 fSub (tm 28) (tm 29))), (wB 8 (doMove (tm 30)))])
noncomputable abbrev s5_6 : CC := (CC.region [(wB 38 (doMove (tm 6))), (wB 39 (bin2 fSub (tm 38) (oN 1))), (wB 40 (doMove (tm 7))), (wB 41 (bin2 fQuo (tm 40) (oN 2))), (wB 42 (bin2 fSub (tm 39) (tm 41))), (wB 8 (doMove (tm 42)))])
noncomputable abbrev s5_7 : CC := (CC.cond (tm 37) s5_6 CC.skip)
noncomputable abbrev s5_8 : CC := (CC.seq (CC.region [(wB 35 (doMove (tm 7))), (wB 36 (doRem (tm 35) (oN 2))), (wB 37 (bin2 fEql (tm 36) (oN 1)))]) s5_7)
noncomputable abbrev s5_9 : CC := (CC.seq (CC.region [(wB 33 (doMove (tm 7))), (wB 34 (bin2 fQuo (tm 33) (oN 2))), (wB 8 (doMove (tm 34)))]) s5_8)
noncomputable abbrev s5_10 : CC := (CC.cond (tm 31) s5_9 CC.skip)
noncomputable abbrev s5_11 : CC := (CC.seq (CC.region [(wB 32 (bin2 fEql (tm 24) (O.c (V.i IntKind.u8 (Int.ofNat 2))))), (wB 31 (doMove (tm 32)))]) s5_10)
noncomputable abbrev s5_12 : CC := (CC.cond (tm 25) s5_5 s5_11)
noncomputable abbrev s5_13 : CC := (CC.seq (CC.region [(wB 26 (bin2 fEql (tm 24) (O.c (V.i IntKind.u8 (Int.ofNat 1))))), (wB 25 (doMove (tm 26)))]) s5_12)
noncomputable abbrev s5_14 : CC := (CC.block 2 s5_13)
noncomputable abbrev s5_15 : CC := (CC.seq (CC.region [(wB 23 (doMove (tm 1))), (wB 24 (doRem (tm 23) (O.c (V.i IntKind.u8 (Int.ofNat 3)))))]) s5_14)
noncomputable abbrev s5_16 : CC := (CC.seq (CC.region [(wB 4 (doMove (O.c (V.b Bool.false))))]) CC.ret)
noncomputable abbrev s5_17 : CC := (CC.cond (tm 56) s5_16 CC.skip)
noncomputable abbrev s5_18 : CC := (CC.seq (CC.region [(wB 43 (doMove (tm 5))), (wB 44 (doMove (tm 8))), (wB 45 (bin2 fQuo (tm 44) (oN 16))), (wB 46 (bin2 fAdd (oN 97) (tm 45))), (wB 47 (doConv IntKind.u8 (tm 46))), (wB 48 (doMove (tm 8))), (wB 49 (doRem (tm 48) (oN 16))), (wB 50 (bin2 fAdd (oN 97) (tm 49))), (wB 51 (doConv IntKind.u8 (tm 50))), (wB 52 (doBuildSlice 5 2 [(V.i IntKind.u8 (Int.ofNat 0)), (V.i IntKind.u8 (Int.ofNat 0))] [(Pt.mk 0 1 (tm 47)), (Pt.mk 1 1 (tm 51))])), (wB 53 (doB2S (tm 52))), (wB 54 (doBuild [(V.s 0 0), (V.i IntKind.i64 (Int.ofNat 0)), (V.b Bool.false), (V.s 0 0)] [(Pt.mk 0 1 (tm 53)), (Pt.mk 1 1 (oN 1))])), (wB 55 (doCall 12 [(tm 43), (tm 54)])), (wB 56 (doNot (tm 55)))]) s5_17)
noncomputable abbrev s5_19 : CC := (CC.seq s5_15 s5_18)
noncomputable abbrev s5_20 : CC := (CC.seq (CC.region [(wB 22 (doMove (tm 7))), (wB 8 (doMove (tm 22)))]) s5_19)
noncomputable abbrev s5_21 : CC := (CC.block 1 s5_20)
noncomputable abbrev s5_22 : CC := (CC.region [(wB 20 (doMove (tm 7))), (wB 21 (bin2 fAdd (tm 20) (oN 1))), (wB 7 (doMove (tm 21)))])
noncomputable abbrev s5_23 : CC := (CC.seq s5_21 s5_22)
noncomputable abbrev l5_0 : CC := (CC.seq s5_4 s5_23)
noncomputable abbrev s5_24 : CC := (CC.loop l5_0)
noncomputable abbrev s5_25 : CC := (CC.block 0 s5_24)
noncomputable abbrev s5_26 : CC := (CC.seq (CC.region [(wB 7 (doMove (oN 0)))]) s5_25)
noncomputable abbrev s5_27 : CC := (CC.seq (CC.region [(wB 4 (doMove (O.c (V.b Bool.false))))]) CC.ret)
noncomputable abbrev s5_28 : CC := (CC.cond (tm 75) s5_27 CC.skip)
noncomputable abbrev s5_29 : CC := (CC.seq (CC.region [(wB 59 (doMove (tm 9))), (wB 60 (doLen (tm 59))), (wB 61 (doMove (tm 6))), (wB 62 (bin2 fNeq (tm 60) (tm 61))), (wB 63 (doMove (tm 62))), (wG 63 false 64 (doMove (tm 5))), (wG 63 false 65 (doCall 20 [(tm 64)])), (wG 63 false 66 (doMove (tm 6))), (wG 63 false 67 (bin2 fNeq (tm 65) (tm 66))), (wB 68 (doPick (tm 63) (O.c (V.b Bool.true)) (tm 67))), (wB 69 (doMove (tm 68))), (wG 69 false 70 (doMove (tm 5))), (wG 69 false 71 (doCall 21 [(tm 70)])), (wG 69 false 72 (doMove (tm 6))), (wG 69 false 73 (bin2 fMul (oN 2) (tm 72))), (wG 69 false 74 (bin2 fNeq (tm 71) (tm 73))), (wB 75 (doPick (tm 69) (O.c (V.b Bool.true)) (tm 74)))]) s5_28)
noncomputable abbrev s5_30 : CC := (CC.cond (tm 78) CC.skip (CC.exit 3))
noncomputable abbrev s5_31 : CC := (CC.seq (CC.region [(wB 76 (doMove (tm 10))), (wB 77 (doMove (tm 6))), (wB 78 (bin2 fLss (tm 76) (tm 77)))]) s5_30)
noncomputable abbrev s5_32 : CC := (CC.seq (CC.region [(wB 4 (doMove (O.c (V.b Bool.false))))]) CC.ret)
noncomputable abbrev s5_33 : CC := (CC.cond (tm 96) s5_32 CC.skip)
noncomputable abbrev s5_34 : CC := (CC.seq (CC.draws [(uB 81 (doMove (tm 9))), (uB 82 (doMove (tm 10))), (uB 83 (doIndexAddr 4 (tm 81) (tm 82))), (uB 84 (doFieldAddr 0 (tm 83))), (uB 85 (doLoad (tm 84))), (uB 86 (doMove (tm 10))), (uB 87 (bin2 fQuo (tm 86) (oN 16))), (uB 88 (bin2 fAdd (oN 97) (tm 87))), (uB 89 (doConv IntKind.u8 (tm 88))), (uB 90 (doMove (tm 10))), (uB 91 (doRem (tm 90) (oN 16))), (uB 92 (bin2 fAdd (oN 97) (tm 91))), (uB 93 (doConv IntKind.u8 (tm 92))), (uB 94 (doBuildSlice 5 2 [(V.i IntKind.u8 (Int.ofNat 0)), (V.i IntKind.u8 (Int.ofNat 0))] [(Pt.mk 0 1 (tm 89)), (Pt.mk 1 1 (tm 93))])), (uB 95 (doB2S (tm 94))), (uB 96 (doSCmp (fun a b c d => !eqS a b c d) (tm 85) (tm 95)))]) s5_33)
noncomputable abbrev s5_35 : CC := (CC.block 4 s5_34)
noncomputable abbrev s5_36 : CC := (CC.region [(wB 79 (doMove (tm 10))), (wB 80 (bin2 fAdd (tm 79) (oN 1))), (wB 10 (doMove (tm 80)))])
noncomputable abbrev s5_37 : CC := (CC.seq s5_35 s5_36)
noncomputable abbrev l5_1 : CC := (CC.seq s5_31 s5_37)
noncomputable abbrev s5_38 : CC := (CC.loop l5_1)
noncomputable abbrev s5_39 : CC := (CC.block 3 s5_38)
noncomputable abbrev s5_40 : CC := (CC.seq (CC.region [(wB 10 (doMove (oN 0)))]) s5_39)
noncomputable abbrev s5_41 : CC := (CC.seq (CC.region [(wB 97 (doMove (tm 5))), (wB 98 (doCall 18 [(tm 97), (O.c (V.s 1 98)), (O.c (V.s 1 99))])), (wB 99 (doLen (tm 98))), (wB 100 (doMove (tm 6))), (wB 101 (bin2 fSub (tm 100) (oN 16))), (wB 102 (doMin (oN 16) (tm 101))), (wB 103 (doMax (oN 0) (tm 102))), (wB 104 (bin2 fEql (tm 99) (tm 103))), (wB 105 (doMove (tm 104))), (wG 105 true 106 (doMove (tm 5))), (wG 105 true 107 (doMove (tm 9))), (wG 105 true 108 (doIndexAddr 4 (tm 107) (oN 0))), (wG 105 true 109 (doLoadA 4 (tm 108))), (wG 105 true 110 (doCall 12 [(tm 106), (tm 109)])), (wG 105 true 111 (doNot (tm 110))), (wB 112 (doPick (tm 105) (tm 111) (O.c (V.b Bool.false)))), (wB 4 (doMove (tm 112)))]) CC.ret)
noncomputable abbrev s5_42 : CC := (CC.seq s5_40 s5_41)
noncomputable abbrev s5_43 : CC := (CC.seq s5_29 s5_42)
noncomputable abbrev s5_44 : CC := (CC.seq (CC.region [(wB 57 (doMove (tm 5))), (wB 58 (doCall 17 [(tm 57)])), (wB 9 (doMove (tm 58)))]) s5_43)
noncomputable abbrev s5_45 : CC := (CC.seq s5_26 s5_44)
noncomputable abbrev s5_46 : CC := (CC.seq (CC.region [(wB 14 (doMove (tm 0))), (wB 15 (doConv IntKind.i64 (tm 14))), (wB 16 (bin2 fAdd (tm 15) (oN 1))), (wB 6 (doMove (tm 16)))]) s5_45)
noncomputable abbrev s5_47 : CC := (CC.seq (CC.region [(wB 13 (doCall 10 [])), (wB 5 (doMove (tm 13)))]) s5_46)
noncomputable abbrev s5_48 : CC := (CC.seq s5_2 s5_47)
noncomputable abbrev b5 : CC := (CC.seq (CC.region [(wB 4 (doMove (O.c (V.b Bool.false))))]) s5_48)
theorem c5 : compFn Try.prog 5 = ⟨113, b5, [(Rs.tmp (slOf 4))]⟩ := by kernel_rfl
noncomputable abbrev s6_0 : CC := (CC.seq (CC.region [(wB 4 (doMove (O.c (V.b Bool.false))))]) CC.ret)
noncomputable abbrev s6_1 : CC := (CC.cond (tm 14) s6_0 CC.skip)
noncomputable abbrev s6_2 : CC := (CC.seq (CC.region [(wB 13 (doCall 8 [])), (wB 14 (doNot (tm 13)))]) s6_1)
noncomputable abbrev s6_3 : CC := (CC.seq (CC.region [(wB 4 (doMove (O.c (V.b Bool.true))))]) CC.ret)
noncomputable abbrev s6_4 : CC := (CC.cond (tm 17) s6_3 CC.skip)
noncomputable abbrev s6_5 : CC := (CC.seq (CC.region [(wB 15 (doMove (tm 0))), (wB 16 (doLen (tm 15))), (wB 17 (bin2 fGtr (tm 16) (oN 40)))]) s6_4)
noncomputable abbrev s6_6 : CC := (CC.cond (tm 22) CC.skip (CC.exit 0))
noncomputable abbrev s6_7 : CC := (CC.seq (CC.region [(wB 19 (doMove (tm 9))), (wB 20 (doMove (tm 0))), (wB 21 (doLen (tm 20))), (wB 22 (bin2 fLss (tm 19) (tm 21)))]) s6_6)
noncomputable abbrev s6_8 : CC := (CC.seq (CC.region [(wB 4 (doMove (O.c (V.b Bool.false))))]) CC.ret)
noncomputable abbrev s6_9 : CC := (CC.cond (tm 41) s6_8 CC.skip)
noncomputable abbrev s6_10 : CC := (CC.seq (CC.draws [(uB 31 (doMove (tm 5))), (uB 32 (doMove (tm 10))), (uB 33 (doBuild [(V.s 0 0), (V.i IntKind.i64 (Int.ofNat 0)), (V.b Bool.false), (V.s 0 0)] [(Pt.mk 0 1 (O.c (V.s 1 107))), (Pt.mk 1 1 (tm 32))])), (uB 34 (doCall 12 [(tm 31), (tm 33)])), (uB 35 (doMove (tm 0))), (uB 36 (doMove (tm 9))), (uB 37 (doIndexAddr 1 (tm 35) (tm 36))), (uB 38 (doLoad (tm 37))), (uB 39 (doIndexAddrArr 256 1 (tm 8) (tm 38))), (uB 40 (doLoad (tm 39))), (uB 41 (doBool Bool.false (tm 34) (tm 40)))]) s6_9)
noncomputable abbrev s6_11 : CC := (CC.region [(wB 49 (doMove (tm 7))), (wB 50 (bin2 fAdd (tm 49) (oN 1))), (wB 7 (doMove (tm 50)))])
noncomputable abbrev s6_12 : CC := (CC.cond (tm 48) s6_11 CC.skip)
noncomputable abbrev s6_13 : CC := (CC.seq (CC.region [(wB 42 (doMove (tm 0))), (wB 43 (doMove (tm 9))), (wB 44 (doIndexAddr 1 (tm 42) (tm 43))), (wB 45 (doLoad (tm 44))), (wB 46 (doIndexAddrArr 256 1 (tm 8) (tm 45))), (wB 47 (doLoad (tm 46))), (wB 48 (doNot (tm 47)))]) s6_12)
noncomputable abbrev s6_14 : CC := (CC.region [(wB 60 (doMove (tm 6))), (wB 61 (doMove (tm 10))), (wB 62 (doMax (tm 60) (tm 61))), (wB 6 (doMove (tm 62)))])
noncomputable abbrev s6_15 : CC := (CC.cond (tm 59) s6_14 CC.skip)
noncomputable abbrev s6_16 : CC := (CC.seq (CC.region [(wB 56 (doMove (tm 10))), (wB 57 (doMove (tm 1))), (wB 58 (doConv IntKind.i64 (tm 57))), (wB 59 (bin2 fLeq (tm 56) (tm 58)))]) s6_15)
noncomputable abbrev s6_17 : CC := (CC.seq (CC.region [(wB 51 (doMove (tm 0))), (wB 52 (doMove (tm 9))), (wB 53 (doIndexAddr 1 (tm 51) (tm 52))), (wB 54 (doLoad (tm 53))), (wB 55 (doIndexAddrArr 256 1 (tm 8) (tm 54))), (CO.mk G.none D.none Bool.true (CR.mk (doStore 1 (tm 55) (O.c (V.b Bool.true)))))]) s6_16)
noncomputable abbrev s6_18 : CC := (CC.seq s6_13 s6_17)
noncomputable abbrev s6_19 : CC := (CC.seq s6_10 s6_18)
noncomputable abbrev s6_20 : CC := (CC.seq (CC.region [(wB 25 (doMove (tm 0))), (wB 26 (doMove (tm 9))), (wB 27 (doIndexAddr 1 (tm 25) (tm 26))), (wB 28 (doLoad (tm 27))), (wB 29 (doConv IntKind.i64 (tm 28))), (wB 30 (bin2 fAdd (tm 29) (oN 1))), (wB 10 (doMove (tm 30)))]) s6_19)
noncomputable abbrev s6_21 : CC := (CC.block 1 s6_20)
noncomputable abbrev s6_22 : CC := (CC.region [(wB 23 (doMove (tm 9))), (wB 24 (bin2 fAdd (tm 23) (oN 1))), (wB 9 (doMove (tm 24)))])
noncomputable abbrev s6_23 : CC := (CC.seq s6_21 s6_22)
noncomputable abbrev l6_0 : CC := (CC.seq s6_7 s6_23)
noncomputable abbrev s6_24 : CC := (CC.loop l6_0)
noncomputable abbrev s6_25 : CC := (CC.block 0 s6_24)
noncomputable abbrev s6_26 : CC := (CC.seq (CC.region [(wB 9 (doMove (oN 0)))]) s6_25)
noncomputable abbrev s6_27 : CC := (CC.seq (CC.region [(wB 70 (doMove (tm 12))), (wB 71 (doMove (tm 6))), (wB 72 (bin2 fGtr (tm 71) (oN 0))), (wB 73 (doBool Bool.false (tm 70) (tm 72))), (wB 74 (doMove (tm 73))), (wG 74 true 75 (doFieldAddr 1 (tm 11))), (wG 74 true 76 (doLoad (tm 75))), (wG 74 true 77 (doMove (tm 6))), (wG 74 true 78 (bin2 fEql (tm 76) (tm 77))), (wB 79 (doPick (tm 74) (tm 78) (O.c (V.b Bool.false)))), (wB 80 (doMove (tm 79))), (wG 80 true 81 (doMove (tm 5))), (wG 80 true 82 (doCall 20 [(tm 81)])), (wG 80 true 83 (doMove (tm 7))), (wG 80 true 84 (bin2 fEql (tm 82) (tm 83))), (wB 85 (doPick (tm 80) (tm 84) (O.c (V.b Bool.false)))), (wB 4 (doMove (tm 85)))]) CC.ret)
noncomputable abbrev s6_28 : CC := (CC.seq (CC.region [(wB 64 (doMove (tm 5))), (wB 65 (doMove (tm 1))), (wB 66 (doConv IntKind.i64 (tm 65))), (wB 67 (doCall 14 [(tm 64), (O.c (V.s 1 107)), (tm 66)])), (wB 63 (doMove (tm 67))), (wB 68 (doExtract 0 (tm 63))), (wB 69 (doExtract 1 (tm 63))), (wB 11 (doAlloc 29 [(V.s 0 0), (V.i IntKind.i64 (Int.ofNat 0)), (V.b Bool.false), (V.s 0 0)])), (CO.mk G.none D.none Bool.true (CR.mk (doStore 4 (tm 11) (tm 68)))), (wB 12 (doMove (tm 69)))]) s6_27)
noncomputable abbrev s6_29 : CC := (CC.seq s6_26 s6_28)
noncomputable abbrev s6_30 : CC := (CC.seq (CC.region [(wB 8 (doAlloc 45 [(V.b Bool.false), (V.b Bool.false), (V.b Bool.false), (V.b Bool.false), (V.b Bool.false), (V.b Bool.false), (V.b Bool.false), (V.b Bool.false), (V.b Bool.false), (V.b Bool.false), (V.b Bool.false), (V.b Bool.false), (V.b Bool.false), (V.b Bool.false), (V.b Bool.false), (V.b Bool.false), (V.b Bool.false), (V.b Bool.false), (V.b Bool.false), (V.b Bool.false), (V.b Bool.false), (V.b Bool.false), (V.b Bool.false), (V.b Bool.false), (V.b Bool.false), (V.b Bool.false), (V.b Bool.false), (V.b Bool.false), (V.b Bool.false), (V.b Bool.false), (V.b Bool.false), (V.b Bool.false), (V.b Bool.false), (V.b Bool.false), (V.b Bool.false), (V.b Bool.false), (V.b Bool.false), (V.b Bool.false), (V.b Bool.false), (V.b Bool.false), (V.b Bool.false), (V.b Bool.false), (V.b Bool.false), (V.b Bool.false), (V.b Bool.false), (V.b Bool.false), (V.b Bool.false), (V.b Bool.false), (V.b Bool.false), (V.b Bool.false), (V.b Bool.false), (V.b Bool.false), (V.b Bool.false), (V.b Bool.false), (V.b Bool.false), (V.b Bool.false), (V.b Bool.false), (V.b Bool.false), (V.b Bool.false), (V.b Bool.false), (V.b Bool.false), (V.b Bool.false), (V.b Bool.false), (V.b Bool.false), (V.b Bool.false), (V.b Bool.false), (V.b Bool.false), (V.b Bool.false), (V.b Bool.false), (V.b Bool.false), (V.b Bool.false), (V.b Bool.false), (V.b Bool.false), (V.b Bool.false), (V.b Bool.false), (V.b Bool.false), (V.b Bool.false), (V.b Bool.false), (V.b Bool.false), (V.b Bool.false), (V.b Bool.false), (V.b Bool.false), (V.b Bool.false), (V.b Bool.false), (V.b Bool.false), (V.b Bool.false), (V.b Bool.false), (V.b Bool.false), (V.b Bool.false), (V.b Bool.false), (V.b Bool.false), (V.b Bool.false), (V.b Bool.false), (V.b Bool.false), (V.b Bool.false), (V.b Bool.false), (V.b Bool.false), (V.b Bool.false), (V.b Bool.false), (V.b Bool.false), (V.b Bool.false), (V.b Bool.false), (V.b Bool.false), (V.b Bool.false), (V.b Bool.false), (V.b Bool.false), (V.b Bool.false), (V.b Bool.false), (V.b Bool.false), (V.b Bool.false), (V.b Bool.false), (V.b Bool.false), (V.b Bool.false), (V.b Bool.false), (V.b Bool.false), (V.b Bool.false), (V.b Bool.false), (V.b Bool.false), (V.b Bool.false), (V.b Bool.false), (V.b Bool.false), (V.b Bool.false), (V.b Bool.false), (V.b Bool.false), (V.b Bool.false), (V.b Bool.false), (V.b Bool.false), (V.b Bool.false), (V.b Bool.false), (V.b Bool.false), (V.b Bool.false), (V.b Bool.false), (V.b Bool.false), (V.b Bool.false), (V.b Bool.false), (V.b Bool.false), (V.b Bool.false), (V.b Bool.false), (V.b Bool.false), (V.b Bool.false), (V.b Bool.false), (V.b Bool.false), (V.b Bool.false), (V.b Bool.false), (V.b Bool.false), (V.b Bool.false), (V.b Bool.false), (V.b Bool.false), (V.b Bool.false), (V.b Bool.false), (V.b Bool.false), (V.b Bool.false), (V.b Bool.false), (V.b Bool.false), (V.b Bool.false), (V.b Bool.false), (V.b Bool.false), (V.b Bool.false), (V.b Bool.false), (V.b Bool.false), (V.b Bool.false), (V.b Bool.false), (V.b Bool.false), (V.b Bool.false), (V.b Bool.false), (V.b Bool.false), (V.b Bool.false), (V.b Bool.false), (V.b Bool.false), (V.b Bool.false), (V.b Bool.false), (V.b Bool.false), (V.b Bool.false), (V.b Bool.false), (V.b Bool.false), (V.b Bool.false), (V.b Bool.false), (V.b Bool.false), (V.b Bool.false), (V.b Bool.false), (V.b Bool.false), (V.b Bool.false), (V.b Bool.false), (V.b Bool.false), (V.b Bool.false), (V.b Bool.false), (V.b Bool.false), (V.b Bool.false), (V.b Bool.false), (V.b Bool.false), (V.b Bool.false), (V.b Bool.false), (V.b Bool.false), (V.b Bool.false), (V.b Bool.false), (V.b Bool.false), (V.b Bool.false), (V.b Bool.false), (V.b Bool.false), (V.b Bool.false), (V.b Bool.false), (V.b Bool.false), (V.b Bool.false), (V.b Bool.false), (V.b Bool.false), (V.b Bool.false), (V.b Bool.false), (V.b Bool.false), (V.b Bool.false), (V.b Bool.false), (V.b Bool.false), (V.b Bool.false), (V.b Bool.false), (V.b Bool.false), (V.b Bool.false), (V.b Bool.false), (V.b Bool.false), (V.b Bool.false), (V.b Bool.false), (V.b Bool.false), (V.b Bool.false), (V.b Bool.false), (V.b Bool.false), (V.b Bool.false), (V.b Bool.false), (V.b Bool.false), (V.b Bool.false), (V.b Bool.false), (V.b Bool.false), (V.b Bool.false), (V.b Bool.false), (V.b Bool.false), (V.b Bool.false), (V.b Bool.false), (V.b Bool.false), (V.b Bool.false), (V.b Bool.false), (V.b Bool.false), (V.b Bool.false), (V.b Bool.false), (V.b Bool.false), (V.b Bool.false), (V.b Bool.false), (V.b Bool.false), (V.b Bool.false), (V.b Bool.false), (V.b Bool.false), (V.b Bool.false), (V.b Bool.false), (V.b Bool.false), (V.b Bool.false), (V.b Bool.false), (V.b Bool.false), (V.b Bool.false), (V.b Bool.false), (V.b Bool.false)]))]) s6_29)
noncomputable abbrev s6_31 : CC := (CC.seq (CC.region [(wB 6 (doMove (oN 0))), (wB 7 (doMove (oN 0)))]) s6_30)
noncomputable abbrev s6_32 : CC := (CC.seq (CC.region [(wB 18 (doCall 10 [])), (wB 5 (doMove (tm 18)))]) s6_31)
noncomputable abbrev s6_33 : CC := (CC.seq s6_5 s6_32)
noncomputable abbrev s6_34 : CC := (CC.seq s6_2 s6_33)
noncomputable abbrev b6 : CC := (CC.seq (CC.region [(wB 4 (doMove (O.c (V.b Bool.false))))]) s6_34)
theorem c6 : compFn Try.prog 6 = ⟨86, b6, [(Rs.tmp (slOf 4))]⟩ := by kernel_rfl
noncomputable abbrev s7_0 : CC := (CC.seq (CC.region [(wB 4 (doMove (O.c (V.b Bool.false))))]) CC.ret)
noncomputable abbrev s7_1 : CC := (CC.cond (tm 12) s7_0 CC.skip)
noncomputable abbrev s7_2 : CC := (CC.seq (CC.region [(wB 11 (doCall 8 [])), (wB 12 (doNot (tm 11)))]) s7_1)
noncomputable abbrev s7_3 : CC := (CC.seq (CC.region [(wB 4 (doMove (O.c (V.b Bool.true))))]) CC.ret)
noncomputable abbrev s7_4 : CC := (CC.cond (tm 24) s7_3 CC.skip)
noncomputable abbrev s7_5 : CC := (CC.seq (CC.region [(wB 13 (doMove (tm 0))), (wB 14 (doCall 9 [(tm 13)])), (wB 15 (doNot (tm 14))), (wB 16 (doMove (tm 15))), (wG 16 false 17 (doMove (tm 1))), (wG 16 false 18 (doLenS (tm 17))), (wG 16 false 19 (bin2 fGtr (tm 18) (oN 20))), (wB 20 (doPick (tm 16) (O.c (V.b Bool.true)) (tm 19))), (wB 21 (doMove (tm 20))), (wG 21 false 22 (doMove (tm 1))), (wG 21 false 23 (doSCmp eqS (tm 22) (O.c (V.s 0 0)))), (wB 24 (doPick (tm 21) (O.c (V.b Bool.true)) (tm 23)))]) s7_4)
noncomputable abbrev s7_6 : CC := (CC.cond (tm 29) CC.skip (CC.exit 0))
noncomputable abbrev s7_7 : CC := (CC.seq (CC.region [(wB 26 (doMove (tm 6))), (wB 27 (doMove (tm 0))), (wB 28 (doLen (tm 27))), (wB 29 (bin2 fLss (tm 26) (tm 28)))]) s7_6)
noncomputable abbrev s7_8 : CC := (CC.region [(wB 32 (doMove (tm 5))), (wB 33 (doMove (tm 0))), (wB 34 (doMove (tm 6))), (wB 35 (doIndexAddr 4 (tm 33) (tm 34))), (wB 36 (doLoadA 4 (tm 35))), (wB 37 (doCall 12 [(tm 32), (tm 36)]))])
noncomputable abbrev s7_9 : CC := (CC.block 1 s7_8)
noncomputable abbrev s7_10 : CC := (CC.region [(wB 30 (doMove (tm 6))), (wB 31 (bin2 fAdd (tm 30) (oN 1))), (wB 6 (doMove (tm 31)))])
noncomputable abbrev s7_11 : CC := (CC.seq s7_9 s7_10)
noncomputable abbrev l7_0 : CC := (CC.seq s7_7 s7_11)
noncomputable abbrev s7_12 : CC := (CC.loop l7_0)
noncomputable abbrev s7_13 : CC := (CC.block 0 s7_12)
noncomputable abbrev s7_14 : CC := (CC.seq (CC.region [(wB 6 (doMove (oN 0)))]) s7_13)
noncomputable abbrev s7_15 : CC := (CC.cond (tm 47) CC.skip (CC.exit 2))
noncomputable abbrev s7_16 : CC := (CC.seq (CC.region [(wB 44 (doMove (tm 9))), (wB 45 (doMove (tm 7))), (wB 46 (doLen (tm 45))), (wB 47 (bin2 fLss (tm 44) (tm 46)))]) s7_15)
noncomputable abbrev s7_17 : CC := (CC.seq (CC.region [(wB 4 (doMove (O.c (V.b Bool.false))))]) CC.ret)
noncomputable abbrev s7_18 : CC := (CC.cond (tm 56) s7_17 CC.skip)
noncomputable abbrev s7_19 : CC := (CC.seq (CC.region [(wB 50 (doMove (tm 7))), (wB 51 (doMove (tm 9))), (wB 52 (doIndexAddr 4 (tm 50) (tm 51))), (wB 53 (doFieldAddr 0 (tm 52))), (wB 54 (doLoad (tm 53))), (wB 55 (doMove (tm 1))), (wB 56 (doSCmp (fun a b c d => !ltS a b c d) (tm 54) (tm 55)))]) s7_18)
noncomputable abbrev s7_20 : CC := (CC.block 3 s7_19)
noncomputable abbrev s7_21 : CC := (CC.region [(wB 48 (doMove (tm 9))), (wB 49 (bin2 fAdd (tm 48) (oN 1))), (wB 9 (doMove (tm 49)))])
noncomputable abbrev s7_22 : CC := (CC.seq s7_20 s7_21)
noncomputable abbrev l7_1 : CC := (CC.seq s7_16 s7_22)
noncomputable abbrev s7_23 : CC := (CC.loop l7_1)
noncomputable abbrev s7_24 : CC := (CC.block 2 s7_23)
noncomputable abbrev s7_25 : CC := (CC.seq (CC.region [(wB 9 (doMove (oN 0)))]) s7_24)
noncomputable abbrev s7_26 : CC := (CC.cond (tm 60) CC.skip (CC.exit 4))
noncomputable abbrev s7_27 : CC := (CC.seq (CC.region [(wB 57 (doMove (tm 10))), (wB 58 (doMove (tm 8))), (wB 59 (doLen (tm 58))), (wB 60 (bin2 fLss (tm 57) (tm 59)))]) s7_26)
noncomputable abbrev s7_28 : CC := (CC.seq (CC.region [(wB 4 (doMove (O.c (V.b Bool.false))))]) CC.ret)
noncomputable abbrev s7_29 : CC := (CC.cond (tm 69) s7_28 CC.skip)
noncomputable abbrev s7_30 : CC := (CC.seq (CC.region [(wB 63 (doMove (tm 8))), (wB 64 (doMove (tm 10))), (wB 65 (doIndexAddr 4 (tm 63) (tm 64))), (wB 66 (doFieldAddr 0 (tm 65))), (wB 67 (doLoad (tm 66))), (wB 68 (doMove (tm 1))), (wB 69 (doSCmp ltS (tm 67) (tm 68)))]) s7_29)
noncomputable abbrev s7_31 : CC := (CC.block 5 s7_30)
noncomputable abbrev s7_32 : CC := (CC.region [(wB 61 (doMove (tm 10))), (wB 62 (bin2 fAdd (tm 61) (oN 1))), (wB 10 (doMove (tm 62)))])
noncomputable abbrev s7_33 : CC := (CC.seq s7_31 s7_32)
noncomputable abbrev l7_2 : CC := (CC.seq s7_27 s7_33)
noncomputable abbrev s7_34 : CC := (CC.loop l7_2)
noncomputable abbrev s7_35 : CC := (CC.block 4 s7_34)
noncomputable abbrev s7_36 : CC := (CC.seq (CC.region [(wB 10 (doMove (oN 0)))]) s7_35)
noncomputable abbrev s7_37 : CC := (CC.seq (CC.region [(wB 70 (doMove (tm 7))), (wB 71 (doAppend 29 4 (O.c V.l0) (tm 70))), (wB 72 (doMove (tm 8))), (wB 73 (doAppend 29 4 (tm 71) (tm 72))), (wB 74 (doMove (tm 5))), (wB 75 (doCall 17 [(tm 74)])), (wB 76 (doCall 16 [(tm 73), (tm 75)])), (wB 77 (doMove (tm 76))), (wG 77 true 78 (doMove (tm 5))), (wG 77 true 79 (doCall 18 [(tm 78), (O.c (V.s 0 0)), (O.c (V.s 0 0))])), (wG 77 true 80 (doMove (tm 5))), (wG 77 true 81 (doCall 17 [(tm 80)])), (wG 77 true 82 (doCall 16 [(tm 79), (tm 81)])), (wB 83 (doPick (tm 77) (tm 82) (O.c (V.b Bool.false)))), (wB 84 (doMove (tm 83))), (wG 84 true 85 (doMove (tm 5))), (wG 84 true 86 (doMove (tm 1))), (wG 84 true 87 (doMove (tm 1))), (wG 84 true 88 (doCall 18 [(tm 85), (tm 86), (tm 87)])), (wG 84 true 89 (doLen (tm 88))), (wG 84 true 90 (bin2 fEql (tm 89) (oN 0))), (wB 91 (doPick (tm 84) (tm 90) (O.c (V.b Bool.false)))), (wB 4 (doMove (tm 91)))]) CC.ret)
noncomputable abbrev s7_38 : CC := (CC.seq s7_36 s7_37)
noncomputable abbrev s7_39 : CC := (CC.seq s7_25 s7_38)
noncomputable abbrev s7_40 : CC := (CC.seq (CC.region [(wB 38 (doMove (tm 5))), (wB 39 (doMove (tm 1))), (wB 40 (doCall 18 [(tm 38), (O.c (V.s 0 0)), (tm 39)])), (wB 41 (doMove (tm 5))), (wB 42 (doMove (tm 1))), (wB 43 (doCall 18 [(tm 41), (tm 42), (O.c (V.s 0 0))])), (wB 7 (doMove (tm 40))), (wB 8 (doMove (tm 43)))]) s7_39)
noncomputable abbrev s7_41 : CC := (CC.seq s7_14 s7_40)
noncomputable abbrev s7_42 : CC := (CC.seq (CC.region [(wB 25 (doCall 10 [])), (wB 5 (doMove (tm 25)))]) s7_41)
noncomputable abbrev s7_43 : CC := (CC.seq s7_5 s7_42)
noncomputable abbrev s7_44 : CC := (CC.seq s7_2 s7_43)
noncomputable abbrev b7 : CC := (CC.seq (CC.region [(wB 4 (doMove (O.c (V.b Bool.false))))]) s7_44)
theorem c7 : compFn Try.prog 7 = ⟨92, b7, [(Rs.tmp (slOf 4))]⟩ := by kernel_rfl
end Go.Proofs.Ytcaoeoeeaaeieaa

set_option maxRecDepth 100000
set_option maxHeartbeats 8000000
set_option linter.all false
namespace Go.Proofs.Ytcaoeoeeaaeieaa
open Go Go.Ev
theorem few10_ok {h : H} {v : V} {L : List Ent} (hL : Es h v L) (hl : L.length ≤ 9223372036854775807) : FnOk Try.prog 9 [v] h fun y h' => y = .b (fewE L) ∧ h' = h := by
  refine fn_go c9 (by intro hb; cases hb) (by simp) (by simp) fun Q hQ => ?_
  simp only [slotsF, Nat.reduceAdd]
  repeat' (first
    | refine St.h ?_
    | simp (disch := first | omega | (simp only [lnv]; omega)) only [wlk, ↓get_put', ↓reduceIte, seval]
    | (with_reducible (first | apply cd_split | apply gd_split)) <;> (intro hc; (try simp only [hcn] at hc); (try simp only [hc]); (try simp only [hcl] at hc); try omega))
  refine Ok.lp (fun m t g => ∃ j : Nat, m = L.length - j ∧ h = g ∧ (∀ i, i < j → okE (L.getD i default) = true) ∧ j ≤ L.length ∧ get 0 t = v ∧ get 3 t = .i .i64 (j : Int)) L.length ?_ ?_
  · simp (disch := first | omega | (simp only [lnv]; omega)) only [wlk, ↓get_put', ↓reduceIte, seval]
    exact ⟨0, by omega, trivial, fun i hi => by omega, by omega, trivial, rfl⟩
  rintro I hI m t g ⟨j, rfl, rfl, hs, hj, f0, f3⟩
  repeat' (first
    | refine St.h ?_
    | simp (disch := first | omega | (simp only [lnv]; omega)) only [wlk, ↓get_put', ↓reduceIte, seval, f0, f3, hL.ln, hL.ix, hL.l0, hL.l3, Int.toNat_natCast]
    | (with_reducible (first | apply cd_split | apply gd_split)) <;> (intro hc; (try simp only [hcn] at hc); (try simp only [hc]); (try simp only [hcl] at hc); try omega))
  · have hb : okE (L.getD j default) = false := by unfold okE; rw [decide_eq_false (p := (L.getD j default).key.length ≤ 20) (by omega), Bool.false_and]
    subst hQ
    exact ⟨by unfold fewE; rw [all_at (by omega) hb]; rfl, rfl⟩
  · have hb : okE (L.getD j default) = false := by unfold okE; rw [decide_eq_false (p := (L.getD j default).val.length ≤ 40) (by omega), Bool.and_false]
    subst hQ
    exact ⟨by unfold fewE; rw [all_at (by omega) hb]; rfl, rfl⟩
  · have hb : okE (L.getD j default) = true := by unfold okE; rw [decide_eq_true (p := (L.getD j default).val.length ≤ 40) (by omega), decide_eq_true (p := (L.getD j default).key.length ≤ 20) (by omega)]; rfl
    refine lp_next hI (L.length - (j + 1)) (by omega) ⟨j + 1, rfl, rfl, fun i hi => ?_, by omega, ?_, ?_⟩
    · rcases Nat.lt_or_ge i j with h1 | h1
      · exact hs i h1
      · rw [show i = j by omega]; exact hb
    · simp (disch := first | omega | (simp only [lnv]; omega)) only [wlk, ↓get_put', ↓reduceIte, seval, f0]
    · simp (disch := first | omega | (simp only [lnv]; omega)) only [wlk, ↓get_put', ↓reduceIte, seval]; rfl
  · subst hQ
    obtain rfl : j = L.length := by omega
    refine ⟨?_, rfl⟩
    unfold fewE
    rw [all_ok hs, Bool.true_and]
    congr 2
    exact propext ⟨fun h => by omega, fun h => by omega⟩
end Go.Proofs.Ytcaoeoeeaaeieaa

set_option maxRecDepth 100000
set_option maxHeartbeats 8000000
set_option linter.all false
namespace Go.Proofs.Ytcaoeoeeaaeieaa
open Go Go.Ev
/-- f 0, f 1 .. put, one by one -/
def putsF (f : Nat → Ent) : Nat → List Ent
  | 0 => []
  | n + 1 => (putE (putsF f n) (f n)).1
theorem putsF_succ (f : Nat → Ent) (n : Nat) : putsF f (n + 1) = (putE (putsF f n) (f n)).1 := rfl
theorem putsF_len (f : Nat → Ent) : ∀ n, (putsF f n).length ≤ n
  | 0 => Nat.le_refl _
  | n + 1 => by have := putE_len (f n) (putsF f n); have := putsF_len f n; rw [putsF_succ]; omega
theorem putsF_sorted (f : Nat → Ent) : ∀ n, sortedE (putsF f n) = true
  | 0 => rfl
  | n + 1 => putE_sorted (putsF_sorted f n)
def sameK (a b : Ent) : Prop := a.key = b.key ∧ a.seq = b.seq
theorem putsF_mem {f : Nat → Ent} {a : Ent} : ∀ {n : Nat}, (∀ i j, i < j → j < n → ¬ sameK (f i) (f j)) → (a ∈ putsF f n ↔ ∃ q, q < n ∧ f q = a ∧ isE a = true)
  | 0, _ => by simp [putsF]
  | n + 1, hd => by
    have ih := putsF_mem (f := f) (a := a) (n := n) fun i j h1 h2 => hd i j h1 (by omega)
    rw [putsF_succ]
    cases hi : isE (f n) with
    | false =>
      rw [putE_bad hi, ih]
      constructor
      · rintro ⟨q, h1, h2⟩; exact ⟨q, by omega, h2⟩
      · rintro ⟨q, h1, h2, h3⟩
        by_cases e : q = n
        · rw [← h2, e, hi] at h3; cases h3
        · exact ⟨q, by omega, h2, h3⟩
    | true =>
      have hno : hasE (putsF f n) (f n) = false := by
        cases hh : hasE (putsF f n) (f n) with
        | false => rfl
        | true =>
          obtain ⟨b, hb, e⟩ := hasE_mem.1 hh
          obtain ⟨q, h1, h2, _⟩ := (putsF_mem (f := f) (a := b) (n := n) fun i j h1 h2 => hd i j h1 (by omega)).1 hb
          exact absurd (by rw [h2]; exact e) (hd q n h1 (by omega))
      rw [putE_ok hi hno]
      show a ∈ insE (f n) (putsF f n) ↔ _
      rw [insE_mem, ih]
      constructor
      · rintro (h | ⟨q, h1, h2⟩)
        · exact ⟨n, by omega, h.symm, by rw [h]; exact hi⟩
        · exact ⟨q, by omega, h2⟩
      · rintro ⟨q, h1, h2, h3⟩
        by_cases e : q = n
        · left; rw [← h2, e]
        · exact .inr ⟨q, by omega, h2, h3⟩
theorem mod_inj {n k i j : Nat} (hi : i < n) (hj : j < n) (h : (i + k) % n = (j + k) % n) : i = j := by
  have go : ∀ a b : Nat, a ≤ b → b < n → (a + k) % n = (b + k) % n → a = b := fun a b h1 h2 h3 => by
    have h4 := Nat.sub_mod_eq_zero_of_mod_eq h3.symm
    rw [show b + k - (a + k) = b - a by omega, Nat.mod_eq_of_lt (by omega)] at h4
    omega
  rcases Nat.le_total i j with h1 | h1
  · exact go i j h1 hj h
  · exact (go j i h1 hi h.symm).symm
theorem putsF_rot {f : Nat → Ent} {n k : Nat} (hn : 0 < n) (hd : ∀ i j, i < j → j < n → ¬ sameK (f i) (f j)) : putsF f n = putsF (fun i => f ((i + k) % n)) n := by
  have hd2 : ∀ i j, i < j → j < n → ¬ sameK (f ((i + k) % n)) (f ((j + k) % n)) := fun i j h1 h2 hs => by
    have hne : (i + k) % n ≠ (j + k) % n := fun e => by have := mod_inj (by omega) h2 e; omega
    have a1 := Nat.mod_lt (i + k) hn
    have a2 := Nat.mod_lt (j + k) hn
    rcases Nat.lt_or_gt_of_ne hne with h | h
    · exact hd _ _ h a2 hs
    · exact hd _ _ h a1 ⟨hs.1.symm, hs.2.symm⟩
  refine sorted_ext (putsF_sorted _ _) (putsF_sorted _ _) fun a => ?_
  rw [putsF_mem hd, putsF_mem hd2]
  constructor
  · rintro ⟨q, h1, h2, h3⟩
    refine ⟨(q + (n - k % n)) % n, Nat.mod_lt _ hn, ?_, h3⟩
    have hk := Nat.mod_lt k hn
    have : ((q + (n - k % n)) % n + k) % n = q := by
      rw [Nat.mod_add_mod, show q + (n - k % n) + k = q + (k - k % n) + n by have := Nat.mod_le k n; omega, Nat.add_mod_right]
      have h4 : k - k % n = n * (k / n) := by have := Nat.div_add_mod k n; omega
      rw [h4, Nat.add_mul_mod_self_left, Nat.mod_eq_of_lt h1]
    rw [this]; exact h2
  · rintro ⟨q, h1, h2, h3⟩
    exact ⟨(q + k) % n, Nat.mod_lt _ hn, h2, h3⟩
theorem heapOrders_ok {h : H} {v : V} {L : List Ent} {c : UInt8} (hL : Es h v L) (hl : L.length ≤ 9223372036854775807) (hf : B.val h.floor ≤ B.val h.next) : FnOk Try.prog 4 [v, .i .u8 (c.toNat : Int)] h fun y h' => y = .b true := by
  refine fn_go c4 (by intro hb; cases hb) (by simp) (by simp) fun Q hQ => ?_
  simp only [slotsF, Nat.reduceAdd]
  have hc8 := c.toNat_lt
  repeat' (first
    | refine St.h ?_
    | simp (disch := first | omega | (simp only [lnv]; omega)) only [wlk, ↓get_put', ↓reduceIte, seval]
    | (with_reducible (first | apply cd_split | apply gd_split)) <;> (intro hc; (try simp only [hcn] at hc); (try simp only [hc]); (try simp only [hcl] at hc); try omega))
  refine CL.pure known10 ?_
  repeat' (first
    | refine St.h ?_
    | simp (disch := first | omega | (simp only [lnv]; omega)) only [wlk, ↓get_put', ↓reduceIte, seval]
    | (with_reducible (first | apply cd_split | apply gd_split)) <;> (intro hc; (try simp only [hcn] at hc); (try simp only [hc]); (try simp only [hcl] at hc); try omega))
  refine CL.pure (few10_ok hL hl) ?_
  cases hfl : fewE L with
  | false =>
    repeat' (first
      | refine St.h ?_
      | simp (disch := first | omega | (simp only [lnv]; omega)) only [wlk, ↓get_put', ↓reduceIte, seval]
      | (with_reducible (first | apply cd_split | apply gd_split)) <;> (intro hc; (try simp only [hcn] at hc); (try simp only [hc]); (try simp only [hcl] at hc); try omega))
    subst hQ; rfl
  | true =>
  obtain ⟨hl60, _⟩ := few_len hfl
  repeat' (first
    | refine St.h ?_
    | simp (disch := first | omega | (simp only [lnv]; omega)) only [wlk, ↓get_put', ↓reduceIte, seval, hL.ln]
    | (with_reducible (first | apply cd_split | apply gd_split)) <;> (intro hc; (try simp only [hcn] at hc); (try simp only [hc]); (try simp only [hcl] at hc); try omega))
  · subst hQ; rfl
  have hn : 0 < L.length := by omega
  refine CL.mk (hnew_ok hf) ?_
  rintro ya h1 ⟨Ua, a1, n1, s1⟩
  have hf1 := s1.fl hf
  repeat' (first
    | refine St.h ?_
    | simp (disch := first | omega | (simp only [lnv]; omega)) only [wlk, ↓get_put', ↓reduceIte, seval]
    | (with_reducible (first | apply cd_split | apply gd_split)) <;> (intro hc; (try simp only [hcn] at hc); (try simp only [hc]); (try simp only [hcl] at hc); try omega))
  refine CL.mk (hnew_ok hf1) ?_
  rintro yb h2 ⟨Ub, b2, m2, s2⟩
  have hf2 := s2.fl hf1
  have a2 := a1.stay s2 fun _ _ h => h
  have s02 := s1.trans s2
  have hck : ((c.toNat : Int) % (L.length : Int)) = ((c.toNat % L.length : Nat) : Int) := by omega
  repeat' (first
    | refine St.h ?_
    | simp (disch := first | omega | (simp only [lnv]; omega)) only [wlk, ↓get_put', ↓reduceIte, seval, hL.ln, hck]
    | (with_reducible (first | apply cd_split | apply gd_split)) <;> (intro hc; (try simp only [hcn] at hc); (try simp only [hc]); (try simp only [hcl] at hc); try omega))
  generalize hkk : c.toNat % L.length = k at *
  have hkl : k < L.length := by rw [← hkk]; exact Nat.mod_lt _ hn
  have hab : ∀ q, Ua q → ¬ Ub q := fun q h1 h2 => by have := a1.lt q h1; have := m2 q h2; omega
  refine Ok.lp (fun m t g => ∃ (i : Nat) (U : B → Prop), m = L.length - i ∧ i ≤ L.length ∧ get 0 t = v ∧ get 5 t = ya ∧ get 6 t = yb ∧ get 7 t = .i .i64 (k : Int) ∧ get 8 t = .i .i64 (i : Int) ∧ Stay nowhere h g ∧ Hp g ya (putsF (fun i => L.getD i default) i) U ∧ (∀ q, U q → B.val h.next ≤ B.val q ∧ ¬ Ub q) ∧ Hp g yb [] Ub ∧ (∀ a b, a < b → b < i → ¬ sameK (L.getD a default) (L.getD b default))) L.length ?_ ?_
  · simp (disch := first | omega | (simp only [lnv]; omega)) only [wlk, ↓get_put', ↓reduceIte, seval, hck]
    refine ⟨0, Ua, by omega, by omega, ?_⟩
    refine ⟨?_, ?_, ?_, ?_, ?_, s02, a2, fun q hq => ⟨n1 q hq, hab q hq⟩, b2, fun a b h1 h2 => by omega⟩
    all_goals first | trivial | rfl
  rintro I hI m t g ⟨i, U, rfl, hi, f0, f5, f6, f7, f8, st, a, nU, b, hds⟩
  have hfg := st.fl hf
  have hLg := hL.grow st
  have hpl := putsF_len (fun i => L.getD i default) i
  by_cases hil : i < L.length
  case pos =>
    repeat' (first
      | refine St.h ?_
      | simp (disch := first | omega | (simp only [lnv]; omega)) only [wlk, ↓get_put', ↓reduceIte, seval, f0, f5, f6, f7, f8, hL.ln, hL.ix, hLg.la, Int.toNat_natCast]
      | (with_reducible (first | apply cd_split | apply gd_split)) <;> (intro hc; (try simp only [hcn] at hc); (try simp only [hc]); (try simp only [hcl] at hc); try omega))
    refine CL.mk (hput_ok (x := L.getD i default) a (by omega) hfg) ?_
    rintro _ g2 ⟨rfl, U2, a2', n2, t2⟩
    have st2 : Stay nowhere h g2 := st.past' t2 fun q hq => (nU q hq).1
    have hLg2 := hL.grow st2
    have b2' := b.stay t2 fun q h1 h2 => (nU q h2).2 h1
    have nU2 : ∀ q, U2 q → B.val h.next ≤ B.val q ∧ ¬ Ub q := fun q hq => by
      rcases n2 q hq with h7 | h7
      · exact nU q h7
      · exact ⟨by have := st.next; omega, fun h8 => by have := b.lt q h8; omega⟩
    repeat' (first
      | refine St.h ?_
      | simp (disch := first | omega | (simp only [lnv]; omega)) only [wlk, ↓get_put', ↓reduceIte, seval, f0, f5, f6, f7, f8]
      | (with_reducible (first | apply cd_split | apply gd_split)) <;> (intro hc; (try simp only [hcn] at hc); (try simp only [hc]); (try simp only [hcl] at hc); try omega))
    refine Ok.lp (fun m t g => ∃ j : Nat, m = i - j ∧ j ≤ i ∧ g2 = g ∧ get 0 t = v ∧ get 5 t = ya ∧ get 6 t = yb ∧ get 7 t = .i .i64 (k : Int) ∧ get 8 t = .i .i64 (i : Int) ∧ get 9 t = .i .i64 (j : Int) ∧ ∀ a, a < j → ¬ sameK (L.getD a default) (L.getD i default)) i ?_ ?_
    · simp (disch := first | omega | (simp only [lnv]; omega)) only [wlk, ↓get_put', ↓reduceIte, seval, f0, f5, f6, f7, f8]
      refine ⟨0, by omega, by omega, ?_⟩
      refine ⟨?_, ?_, ?_, ?_, ?_, ?_, ?_, fun a h => by omega⟩
      all_goals first | trivial | rfl
    rintro I2 hI2 m2' t2' g2' ⟨j, rfl, hj, rfl, e0, e5, e6, e7, e8, e9, hno⟩
    by_cases hjl : j < i
    case neg =>
      obtain rfl : j = i := by omega
      repeat' (first
        | refine St.h ?_
        | simp (disch := first | omega | (simp only [lnv]; omega)) only [wlk, ↓get_put', ↓reduceIte, seval, e0, e5, e6, e7, e8, e9]
        | (with_reducible (first | apply cd_split | apply gd_split)) <;> (intro hc; (try simp only [hcn] at hc); (try simp only [hc]); (try simp only [hcl] at hc); try omega))
      refine lp_next hI (L.length - (j + 1)) (by omega) ⟨j + 1, U2, rfl, by omega, by simp (disch := first | omega | (simp only [lnv]; omega)) only [wlk, ↓get_put', ↓reduceIte, seval, e0], by simp (disch := first | omega | (simp only [lnv]; omega)) only [wlk, ↓get_put', ↓reduceIte, seval, e5], by simp (disch := first | omega | (simp only [lnv]; omega)) only [wlk, ↓get_put', ↓reduceIte, seval, e6], by simp (disch := first | omega | (simp only [lnv]; omega)) only [wlk, ↓get_put', ↓reduceIte, seval, e7], by simp (disch := first | omega | (simp only [lnv]; omega)) only [wlk, ↓get_put', ↓reduceIte, seval, e8]; rfl, st2, a2', nU2, b2', fun a b h1 h2 => ?_⟩
      by_cases e : b = j
      · rw [e]; exact hno a (by omega)
      · exact hds a b h1 (by omega)
    have hjL : j < L.length := by omega
    by_cases hsm : sameK (L.getD j default) (L.getD i default)
    case pos =>
      have d1 : decide ((L.getD j default).key = (L.getD i default).key) = true := decide_eq_true hsm.1
      have d2 : ((L.getD j default).seq = (L.getD i default).seq) = True := eq_true hsm.2
      repeat' (first
        | refine St.h ?_
        | simp (disch := first | omega | (simp only [lnv]; omega)) only [wlk, ↓get_put', ↓reduceIte, seval, e0, e5, e6, e7, e8, e9, hL.ix, hLg2.l0, hLg2.l1, d1, d2, Int.toNat_natCast]
        | (with_reducible (first | apply cd_split | apply gd_split)) <;> (intro hc; (try simp only [hcn] at hc); (try simp only [hc]); (try simp only [hcl] at hc); try omega))
      subst hQ; rfl
    have hd : (decide ((L.getD j default).key = (L.getD i default).key) = false ∧ (2 = 3) = False) ∨ (decide ((L.getD j default).key = (L.getD i default).key) = true ∧ ((L.getD j default).seq = (L.getD i default).seq) = False) := by
      by_cases hk : (L.getD j default).key = (L.getD i default).key
      · exact .inr ⟨decide_eq_true hk, eq_false fun e => hsm ⟨hk, e⟩⟩
      · exact .inl ⟨decide_eq_false hk, eq_false (by decide)⟩
    rcases hd with ⟨d1, d2⟩ | ⟨d1, d2⟩
    all_goals
      repeat' (first
        | refine St.h ?_
        | simp (disch := first | omega | (simp only [lnv]; omega)) only [wlk, ↓get_put', ↓reduceIte, seval, e0, e5, e6, e7, e8, e9, hL.ix, hLg2.l0, hLg2.l1, d1, d2, Int.toNat_natCast]
        | (with_reducible (first | apply cd_split | apply gd_split)) <;> (intro hc; (try simp only [hcn] at hc); (try simp only [hc]); (try simp only [hcl] at hc); try omega))
      refine lp_next hI2 (i - (j + 1)) (by omega) ⟨j + 1, rfl, by omega, rfl, by simp (disch := first | omega | (simp only [lnv]; omega)) only [wlk, ↓get_put', ↓reduceIte, seval, e0], by simp (disch := first | omega | (simp only [lnv]; omega)) only [wlk, ↓get_put', ↓reduceIte, seval, e5], by simp (disch := first | omega | (simp only [lnv]; omega)) only [wlk, ↓get_put', ↓reduceIte, seval, e6], by simp (disch := first | omega | (simp only [lnv]; omega)) only [wlk, ↓get_put', ↓reduceIte, seval, e7], by simp (disch := first | omega | (simp only [lnv]; omega)) only [wlk, ↓get_put', ↓reduceIte, seval, e8], by simp (disch := first | omega | (simp only [lnv]; omega)) only [wlk, ↓get_put', ↓reduceIte, seval, e9]; rfl, fun a h => ?_⟩
      by_cases e : a = j
      · rw [e]; exact hsm
      · exact hno a (by omega)
  obtain rfl : i = L.length := by omega
  have hrot := putsF_rot (k := k) hn hds
  generalize hRR : putsF (fun i => L.getD i default) L.length = R at *
  repeat' (first
    | refine St.h ?_
    | simp (disch := first | omega | (simp only [lnv]; omega)) only [wlk, ↓get_put', ↓reduceIte, seval, f0, f5, f6, f7, f8, hL.ln]
    | (with_reducible (first | apply cd_split | apply gd_split)) <;> (intro hc; (try simp only [hcn] at hc); (try simp only [hc]); (try simp only [hcl] at hc); try omega))
  refine Ok.lp (fun m t g' => ∃ (i : Nat) (W : B → Prop), m = L.length - i ∧ i ≤ L.length ∧ get 0 t = v ∧ get 5 t = ya ∧ get 6 t = yb ∧ get 7 t = .i .i64 (k : Int) ∧ get 10 t = .i .i64 (i : Int) ∧ Stay nowhere h g' ∧ Hp g' ya R U ∧ Hp g' yb (putsF (fun i => L.getD ((i + k) % L.length) default) i) W ∧ (∀ q, W q → B.val h.next ≤ B.val q ∧ ¬ U q)) L.length ?_ ?_
  · simp (disch := first | omega | (simp only [lnv]; omega)) only [wlk, ↓get_put', ↓reduceIte, seval, f0, f5, f6, f7]
    refine ⟨0, Ub, by omega, by omega, ?_⟩
    refine ⟨?_, ?_, ?_, ?_, ?_, st, a, b, fun q hq => ⟨by have := m2 q hq; have := s1.next; omega, fun h8 => (nU q h8).2 hq⟩⟩
    all_goals first | trivial | rfl
  rintro I3 hI3 m3 t3 g3 ⟨i, W, rfl, hi3, e0, e5, e6, e7, e10, st3, a3, b3, nW⟩
  have hf3 := st3.fl hf
  have hL3 := hL.grow st3
  have hpl3 := putsF_len (fun i => L.getD ((i + k) % L.length) default) i
  by_cases hil3 : i < L.length
  case pos =>
    have hml := Nat.mod_lt (i + k) hn
    have hsm : (((i : Int) + (k : Int)) % (L.length : Int)) = (((i + k) % L.length : Nat) : Int) := by simp
    repeat' (first
      | refine St.h ?_
      | simp (disch := first | omega | (simp only [lnv]; omega)) only [wlk, ↓get_put', ↓reduceIte, seval, e0, e5, e6, e7, e10, hL.ln, hsm, hL.ix, hL3.la, Int.toNat_natCast]
      | (with_reducible (first | apply cd_split | apply gd_split)) <;> (intro hc; (try simp only [hcn] at hc); (try simp only [hc]); (try simp only [hcl] at hc); try omega))
    refine CL.mk (hput_ok (x := L.getD ((i + k) % L.length) default) b3 (by omega) hf3) ?_
    rintro _ g4 ⟨rfl, W2, b4, m4, t4⟩
    have st4 : Stay nowhere h g4 := st3.past' t4 fun q hq => (nW q hq).1
    have a4 := a3.stay t4 fun q h1 h2 => (nW q h2).2 h1
    repeat' (first
      | refine St.h ?_
      | simp (disch := first | omega | (simp only [lnv]; omega)) only [wlk, ↓get_put', ↓reduceIte, seval, e0, e5, e6, e7, e10]
      | (with_reducible (first | apply cd_split | apply gd_split)) <;> (intro hc; (try simp only [hcn] at hc); (try simp only [hc]); (try simp only [hcl] at hc); try omega))
    refine lp_next hI3 (L.length - (i + 1)) (by omega) ⟨i + 1, W2, rfl, by omega, by simp (disch := first | omega | (simp only [lnv]; omega)) only [wlk, ↓get_put', ↓reduceIte, seval, e0], by simp (disch := first | omega | (simp only [lnv]; omega)) only [wlk, ↓get_put', ↓reduceIte, seval, e5], by simp (disch := first | omega | (simp only [lnv]; omega)) only [wlk, ↓get_put', ↓reduceIte, seval, e6], by simp (disch := first | omega | (simp only [lnv]; omega)) only [wlk, ↓get_put', ↓reduceIte, seval, e7], by simp (disch := first | omega | (simp only [lnv]; omega)) only [wlk, ↓get_put', ↓reduceIte, seval, e10]; rfl, st4, a4, b4, fun q hq => ?_⟩
    rcases m4 q hq with h7 | h7
    · exact nW q h7
    · exact ⟨by have := st3.next; omega, fun h8 => by have := a3.lt q h8; omega⟩
  obtain rfl : i = L.length := by omega
  rw [← hrot] at b3
  have hpl : R.length ≤ 60 := by omega
  obtain ⟨_, hso⟩ := a3.ok
  repeat' (first
    | refine St.h ?_
    | simp (disch := first | omega | (simp only [lnv]; omega)) only [wlk, ↓get_put', ↓reduceIte, seval, e0, e5, e6, e7, e10, hL.ln]
    | (with_reducible (first | apply cd_split | apply gd_split)) <;> (intro hc; (try simp only [hcn] at hc); (try simp only [hc]); (try simp only [hcl] at hc); try omega))
  refine CL.mk (hall_ok a3 (by omega) hf3) ?_
  rintro va g5 ⟨ra, wa, t5⟩
  have hf5 := t5.fl hf3
  have a5 := a3.stay t5 fun _ _ h => h
  have b5 := b3.stay t5 fun _ _ h => h
  repeat' (first
    | refine St.h ?_
    | simp (disch := first | omega | (simp only [lnv]; omega)) only [wlk, ↓get_put', ↓reduceIte, seval, e0, e5, e6]
    | (with_reducible (first | apply cd_split | apply gd_split)) <;> (intro hc; (try simp only [hcn] at hc); (try simp only [hc]); (try simp only [hcl] at hc); try omega))
  refine Ok.lp (fun m t g => ∃ i : Nat, m = R.length + 1 - i ∧ 1 ≤ i ∧ i ≤ R.length + 1 ∧ Stay nowhere g5 g ∧ get 5 t = ya ∧ get 6 t = yb ∧ get 11 t = va ∧ get 12 t = .i .i64 (i : Int)) R.length ?_ ?_
  · simp (disch := first | omega | (simp only [lnv]; omega)) only [wlk, ↓get_put', ↓reduceIte, seval, e5, e6]
    refine ⟨1, by omega, by omega, by omega, Stay.refl _ _, ?_⟩
    refine ⟨?_, ?_, ?_, ?_⟩
    all_goals first | trivial | rfl
  rintro I4 hI4 m4 t4 g6 ⟨i, rfl, hi1, hi2, t6, d5, d6, d11, d12⟩
  have hf6 := t6.fl hf5
  have ra6 := ra.grow t6
  by_cases hil4 : i < R.length
  case pos =>
    have hls := sorted_lt hso (show i - 1 < i by omega) hil4
    have e1 : ((i : Int) - 1).toNat = i - 1 := by omega
    repeat' (first
      | refine St.h ?_
      | simp (disch := first | omega | (simp only [lnv]; omega)) only [wlk, ↓get_put', ↓reduceIte, seval, d5, d6, d11, d12, ra.ln, ra.ix, ra6.la, e1, Int.toNat_natCast]
      | (with_reducible (first | apply cd_split | apply gd_split)) <;> (intro hc; (try simp only [hcn] at hc); (try simp only [hc]); (try simp only [hcl] at hc); try omega))
    refine CL.stay (rless_ok (a := R.getD (i - 1) default) (b := R.getD i default) hf6) fun g7 t7 => ?_
    rw [hls]
    repeat' (first
      | refine St.h ?_
      | simp (disch := first | omega | (simp only [lnv]; omega)) only [wlk, ↓get_put', ↓reduceIte, seval, d5, d6, d11, d12]
      | (with_reducible (first | apply cd_split | apply gd_split)) <;> (intro hc; (try simp only [hcn] at hc); (try simp only [hc]); (try simp only [hcl] at hc); try omega))
    refine lp_next hI4 (R.length + 1 - (i + 1)) (by omega) ⟨i + 1, rfl, by omega, by omega, t6.trans t7, by simp (disch := first | omega | (simp only [lnv]; omega)) only [wlk, ↓get_put', ↓reduceIte, seval, d5], by simp (disch := first | omega | (simp only [lnv]; omega)) only [wlk, ↓get_put', ↓reduceIte, seval, d6], by simp (disch := first | omega | (simp only [lnv]; omega)) only [wlk, ↓get_put', ↓reduceIte, seval, d11], by simp (disch := first | omega | (simp only [lnv]; omega)) only [wlk, ↓get_put', ↓reduceIte, seval, d12]; rfl⟩
  have a6 := a5.stay t6 fun _ _ h => h
  have b6 := b5.stay t6 fun _ _ h => h
  repeat' (first
    | refine St.h ?_
    | simp (disch := first | omega | (simp only [lnv]; omega)) only [wlk, ↓get_put', ↓reduceIte, seval, d5, d6, d11, d12, ra.ln]
    | (with_reducible (first | apply cd_split | apply gd_split)) <;> (intro hc; (try simp only [hcn] at hc); (try simp only [hc]); (try simp only [hcl] at hc); try omega))
  refine CL.mk (hall_ok b6 (by omega) hf6) ?_
  rintro vb g8 ⟨rb, wb, t8⟩
  have hf8 := t8.fl hf6
  have a8 := a6.stay t8 fun _ _ h => h
  have b8 := b6.stay t8 fun _ _ h => h
  repeat' (first
    | refine St.h ?_
    | simp (disch := first | omega | (simp only [lnv]; omega)) only [wlk, ↓get_put', ↓reduceIte, seval, d5, d6]
    | (with_reducible (first | apply cd_split | apply gd_split)) <;> (intro hc; (try simp only [hcn] at hc); (try simp only [hc]); (try simp only [hcl] at hc); try omega))
  refine CL.pure (rsame_ok (ra6.grow t8) rb (by omega)) ?_
  have hd4 : (R = R) = True := eq_true rfl
  repeat' (first
    | refine St.h ?_
    | simp (disch := first | omega | (simp only [lnv]; omega)) only [wlk, ↓get_put', ↓reduceIte, seval, d5, d6, hd4]
    | (with_reducible (first | apply cd_split | apply gd_split)) <;> (intro hc; (try simp only [hcn] at hc); (try simp only [hc]); (try simp only [hcl] at hc); try omega))
  refine CL.pure (hbytes_ok a8 (by omega)) ?_
  repeat' (first
    | refine St.h ?_
    | simp (disch := first | omega | (simp only [lnv]; omega)) only [wlk, ↓get_put', ↓reduceIte, seval, d6]
    | (with_reducible (first | apply cd_split | apply gd_split)) <;> (intro hc; (try simp only [hcn] at hc); (try simp only [hc]); (try simp only [hcl] at hc); try omega))
  refine CL.pure (hbytes_ok b8 (by omega)) ?_
  repeat' (first
    | refine St.h ?_
    | simp (disch := first | omega | (simp only [lnv]; omega)) only [wlk, ↓get_put', ↓reduceIte, seval]
    | (with_reducible (first | apply cd_split | apply gd_split)) <;> (intro hc; (try simp only [hcn] at hc); (try simp only [hc]); (try simp only [hcl] at hc); try omega))
  subst hQ; rfl
end Go.Proofs.Ytcaoeoeeaaeieaa

set_option linter.all false
namespace Go.Ev
open Go Go.RowKit Go.WideShapes Go.ChangeShapes Go.ChangeAt Go.Deep
section
variable {H' : Type} {enc : TypeId × Value → H'} {P : Program}
theorem flat_of {W : World} {t : TypeId} {fs : Array Field} {fuel : Nat} {cs : List Value} {x : DataW H' × List MemPlace} (ut : P.underlying t = some (.struct fs)) (hd : DataW.trod enc P W 0 (fun _ => true) true fuel t cs = some x) :
    cs.length = P.cellsOf t ∧ ∀ (i : Nat) f, fs.toList[i]? = some f → ∃ n y, DataW.trod enc P W 0 (fun _ => true) true n f.type ((cs.drop f.offset).take (P.cellsOf f.type)) = some y := by
  cases fuel with
  | zero => simp [DataW.trod] at hd
  | succ n =>
    unfold DataW.trod at hd
    rw [ut] at hd
    simp only at hd
    split at hd
    · rename_i hl
      refine ⟨hl, fun i f hf => ?_⟩
      rw [Option.map_eq_some_iff] at hd
      obtain ⟨xs, hx, _⟩ := hd
      have := mapM_some_get hx i f hf
      have hlen := mapM_some_length hx
      have hi : i < xs.length := by rw [hlen]; exact (List.getElem?_eq_some_iff.1 hf).1
      exact ⟨n, xs[i], by rw [this]; simp⟩
    · cases hd
structure EntF (P : Program) (t : TypeId) (fs : Array Field) : Prop where
  ut : P.underlying t = some (.struct fs)
  sz : P.cellsOf t = 4
  f0 : ∃ f, fs.toList[0]? = some f ∧ f.offset = 0 ∧ P.cellsOf f.type = 1 ∧ P.underlying f.type = some .string
  f1 : ∃ f, fs.toList[1]? = some f ∧ f.offset = 1 ∧ P.cellsOf f.type = 1 ∧ P.underlying f.type = some (.int .i64)
  f2 : ∃ f, fs.toList[2]? = some f ∧ f.offset = 2 ∧ P.cellsOf f.type = 1 ∧ P.underlying f.type = some .bool
  f3 : ∃ f, fs.toList[3]? = some f ∧ f.offset = 3 ∧ P.cellsOf f.type = 1 ∧ P.underlying f.type = some .string
/-- an entry's cells -/
def entV (k : ByteArray) (n : Int) (d : Bool) (v : ByteArray) : List Value := [.string k, .int .i64 n, .bool d, .string v]
theorem ent_cells {W : World} {t : TypeId} {fs : Array Field} {fuel : Nat} {cs : List Value} {x : DataW H' × List MemPlace} (F : EntF P t fs) (hd : DataW.trod enc P W 0 (fun _ => true) true fuel t cs = some x) :
    ∃ k n d v, cs = entV k n d v ∧ k.size ≤ maxLen ∧ v.size ≤ maxLen ∧ (Lit.int .i64 n).wf = true := by
  obtain ⟨hl, hf⟩ := flat_of F.ut hd
  rw [F.sz] at hl
  obtain ⟨f0, g0, o0, c0, u0⟩ := F.f0
  obtain ⟨f1, g1, o1, c1, u1⟩ := F.f1
  obtain ⟨f2, g2, o2, c2, u2⟩ := F.f2
  obtain ⟨f3, g3, o3, c3, u3⟩ := F.f3
  match cs, hl with
  | [a, b, c, d], _ =>
    obtain ⟨_, _, h0⟩ := hf 0 f0 g0
    obtain ⟨_, _, h1⟩ := hf 1 f1 g1
    obtain ⟨_, _, h2⟩ := hf 2 f2 g2
    obtain ⟨_, _, h3⟩ := hf 3 f3 g3
    rw [o0, c0] at h0
    rw [o1, c1] at h1
    rw [o2, c2] at h2
    rw [o3, c3] at h3
    obtain ⟨k, e0, _, z0⟩ := DataW.trod_string u0 h0
    obtain ⟨n, e1, _, z1⟩ := DataW.trod_int u1 h1
    obtain ⟨q, e2, _⟩ := DataW.trod_bool u2 h2
    obtain ⟨v, e3, _, z3⟩ := DataW.trod_string u3 h3
    simp at e0 e1 e2 e3
    exact ⟨k, n, q, v, by rw [e0, e1, e2, e3]; rfl, z0, z3, z1⟩
/-- a row of entries -/
theorem es_of {W : World} {h : H} (s : Start W h) (h0 : 0 < W.heap.size) {t e : TypeId} {fs : Array Field} {fuel : Nat} {cs : List Value} {x : DataW H' × List MemPlace} (ht : P.underlying t = some (.slice e)) (F : EntF P e fs)
    (hd : DataW.trod enc P W 0 (fun _ => true) true fuel t cs = some x) : ∃ sv L, cs = [sv] ∧ Es h (absV W sv) L ∧ L.length ≤ 9223372036854775807 ∧ ∀ e ∈ L, (e.key.length ≤ 9223372036854775807 ∧ e.val.length ≤ 9223372036854775807) ∧ -9223372036854775808 ≤ e.seq ∧ e.seq ≤ 9223372036854775807 := by
  rcases open_slice ht hd with ⟨rfl, _⟩ | ⟨a, len, cap, m, n, D, Pl, rfl, hb, hl, hm, hmm, _, hx⟩
  · exact ⟨_, [], rfl, .inl ⟨rfl, rfl⟩, by simp, fun e he => by cases he⟩
  simp only [if_true] at hmm
  rw [F.sz] at hx
  have hx' : ∀ i, i < len → ∃ k n q u, (∀ d y, (entV k n q u)[d]? = some y → W.cell? ⟨a.block, a.off + i * 4 + d, none⟩ = some y) ∧ (0 < len → a.spot = none) ∧ k.size ≤ maxLen ∧ u.size ≤ maxLen ∧ (Lit.int .i64 n).wf = true := by
    intro i hi
    obtain ⟨cs', h1, h2⟩ := hx i (by omega)
    obtain ⟨k, n, q, u, rfl, z1, z2, z3⟩ := ent_cells F h2
    obtain ⟨_, _, h3⟩ := World.cells?_some h1
    refine ⟨k, n, q, u, fun d y hy => ?_, fun _ => ?_, z1, z2, z3⟩
    · have hd : d < 4 := by have := (List.getElem?_eq_some_iff.1 hy).1; exact this
      have h4 := h3 d hd
      rw [hy] at h4
      have h5 := cell_add h4
      have e1 : (a.add (i * 4)).block = a.block := by unfold Addr.add; split <;> rfl
      have e2 : (a.add (i * 4)).off = a.off + i * 4 := by
        unfold Addr.add; split
        · rename_i hz; rw [hz]; rfl
        · rfl
      rw [e1, e2] at h5
      exact h5
    · have hlen : 0 < len := by omega
      obtain ⟨cs0, g1, g2⟩ := hx 0 (by omega)
      obtain ⟨k0, n0, q0, u0, rfl, _⟩ := ent_cells F g2
      obtain ⟨_, _, g3⟩ := World.cells?_some g1
      have g4 := g3 0 (by omega)
      have g5 := World.cell?_spot g4
      unfold Addr.add at g5
      simpa using g5
  obtain ⟨E, hE⟩ := choose_lt (α := ByteArray × Int × Bool × ByteArray) (p := fun i r => (∀ d y, (entV r.1 r.2.1 r.2.2.1 r.2.2.2)[d]? = some y → W.cell? ⟨a.block, a.off + i * 4 + d, none⟩ = some y) ∧ (0 < len → a.spot = none) ∧ r.1.size ≤ maxLen ∧ r.2.2.2.size ≤ maxLen ∧ (Lit.int .i64 r.2.1).wf = true) (fun i hi => by
    obtain ⟨k, n, q, u, h⟩ := hx' i hi
    exact ⟨(k, n, q, u), h⟩)
  let G : Nat → Ent := fun i => ⟨(E i).1.data.toList, (E i).2.1, (E i).2.2.1, (E i).2.2.2.data.toList⟩
  have hL : ((List.range len).map G).length = len := by simp
  refine ⟨_, (List.range len).map G, rfl, ?_, by rw [hL]; exact maxLen_le (by omega), fun e he => ?_⟩
  · obtain ⟨b, off, spot⟩ := a
    cases len with
    | zero =>
      have e : absV W (.slice (some ⟨b, off, spot⟩) 0 cap) = .l (nb 0) 0 0 0 0 none := by unfold absV; simp only [if_pos h0]
      rw [e]
      exact .inr ⟨nb 0, 0, 0, 0, none, rfl, by simp, (s.blk 0 h0).1, fun hne => absurd rfl hne, fun i v hv => by simp at hv⟩
    | succ n =>
      have hs' : spot = none := (hE 0 (by omega)).2.1 (by omega)
      subst hs'
      have hcell : ∀ i, i < n + 1 → ∀ d y, (entV (E i).1 (E i).2.1 (E i).2.2.1 (E i).2.2.2)[d]? = some y → b < W.heap.size ∧ off + i * 4 + d < csz W b ∧ (∃ blk, h.heap.get (nb b) = some blk ∧ blk.min ≤ 0) ∧ Ev.cell h (nb b) 0 (off + i * 4 + d) = some (absV W y) :=
        fun i hi d y hy => s.cell ((hE i hi).1 d y hy)
      obtain ⟨d1, d2, d3, d4⟩ := hcell n (by omega) 3 _ rfl
      have e : absV W (.slice (some ⟨b, off, none⟩) (n + 1) cap) = .l (nb b) 0 off (n + 1) (csz W b) (some cap) := by unfold absV; simp only [if_pos (⟨d1, hl, Nat.lt_of_le_of_lt hm maxLen_lt⟩ : b < W.heap.size ∧ n + 1 ≤ cap ∧ cap < 18446744073709551616)]
      rw [e]
      refine .inr ⟨nb b, 0, off, csz W b, some cap, by rw [hL], by rw [hL]; omega, (s.blk b d1).1, fun _ => d3, fun j v hv => ?_⟩
      have hj : j < (((List.range (n + 1)).map G).flatMap entC).length := (List.getElem?_eq_some_iff.1 hv).1
      rw [fm_len entC_len, hL] at hj
      obtain ⟨i, d, rfl, hd⟩ : ∃ i d, j = i * 4 + d ∧ d < 4 := ⟨j / 4, j % 4, by omega, by omega⟩
      have hi : i < n + 1 := by omega
      rw [fm_get entC_len (by rw [hL]; exact hi) hd] at hv
      have hG : ((List.range (n + 1)).map G).getD i default = G i := by simp [List.getD, hi]
      rw [hG] at hv
      rw [← Nat.add_assoc]
      match d, hd with
      | 0, _ => have := (hcell i hi 0 _ rfl).2.2.2; rw [this, absV_str]; exact hv
      | 1, _ => exact (hcell i hi 1 _ rfl).2.2.2.trans hv
      | 2, _ => exact (hcell i hi 2 _ rfl).2.2.2.trans hv
      | 3, _ => have := (hcell i hi 3 _ rfl).2.2.2; rw [this, absV_str]; exact hv
  · obtain ⟨i, hi, rfl⟩ := List.mem_map.1 he
    rw [List.mem_range] at hi
    obtain ⟨_, _, z1, z2, z3⟩ := hE i hi
    exact ⟨⟨str_len z1, str_len z2⟩, wf_i64 z3⟩
structure WriF (P : Program) (t : TypeId) (fs : Array Field) : Prop where
  ut : P.underlying t = some (.struct fs)
  sz : P.cellsOf t = 3
  f0 : ∃ f, fs.toList[0]? = some f ∧ f.offset = 0 ∧ P.cellsOf f.type = 1 ∧ P.underlying f.type = some .string
  f1 : ∃ f, fs.toList[1]? = some f ∧ f.offset = 1 ∧ P.cellsOf f.type = 1 ∧ P.underlying f.type = some .bool
  f2 : ∃ f, fs.toList[2]? = some f ∧ f.offset = 2 ∧ P.cellsOf f.type = 1 ∧ P.underlying f.type = some .string
end
end Go.Ev

namespace Go.Proofs.Ytcaoeoeeaaeieaa.heapOrders
open Go Go.Ev Go.ChangeShapes Go.WideShapes Go.ChangeAt Go.RowKit Go.ChangeMaps
set_option linter.all false
theorem own : ownKnob Try.prog.godebug = none := by kernel_rfl
theorem laid : laidOutB Try.prog = true := by kernel_rfl
theorem heap_pos {W : World} (h : W.ShapedOpen Try.prog) : 0 < W.heap.size := by
  obtain ⟨o, _, h1, _⟩ := h.2 0 (of_decide_eq_true (by kernel_rfl)) (of_decide_eq_true (by kernel_rfl))
  exact (Array.getElem?_eq_some_iff.1 h1).1
set_option maxRecDepth 100000 in
theorem isEntF : ∃ fs, EntF Try.prog 29 fs := ⟨_, (EntF.mk Try.underlying29 (by kernel_rfl) ⟨_, rfl, rfl, by kernel_rfl, Try.underlying9⟩ ⟨_, rfl, rfl, by kernel_rfl, Try.underlying3⟩ ⟨_, rfl, rfl, by kernel_rfl, Try.underlying4⟩ ⟨_, rfl, rfl, by kernel_rfl, Try.underlying9⟩)⟩
set_option maxRecDepth 100000 in
theorem run {H : Type} {enc : TypeId × Value → H} (W : World) (base : Nat) (args : Array Value) (ds : List (DataW H)) (p : List MemPlace) (hval : ∀ (j : Nat) t v, Try.f4.params[j]? = some t → args[j]? = some v → Value.okWide Try.prog W .any base t v) (hopen : W.ShapedOpen Try.prog)
    (hA : DataW.TrodAll enc Try.prog W 0 (fun _ => true) true Try.f4.params.toList args.toList ds p) : Calls Try.prog 4 args W fun e w' => e = .returned (.bool true) ∧ Below W.heap.size W w' := by
  rw [Try.params4] at hA hval
  obtain ⟨fsEntF, eF⟩ := isEntF
  obtain ⟨v0, vs0, d0, ds0, p0, q0, hargs, rfl, rfl, h0, r0⟩ := trodAll_cons hA
  obtain ⟨v1, vs1, d1, ds1, p1, q1, rfl, rfl, rfl, h1, r1⟩ := trodAll_cons r0
  obtain ⟨rfl, rfl, rfl⟩ := trodAll_nil r1
  obtain rfl : args = #[v0, v1] := by cases args; simp_all
  obtain ⟨h, s1, s2⟩ := Go.Ev.start W
  have s : Go.Ev.Start W h := ⟨s1, s2⟩
  obtain ⟨x0, y0, z0, rfl⟩ := okWide_slice Try.underlying22 (hval 0 22 v0 rfl rfl)
  obtain ⟨fu0, hfu0⟩ := h0
  obtain ⟨u0, L0, e0, m0, l0, k0⟩ := es_of s (heap_pos hopen) Try.underlying22 eF hfu0
  obtain rfl := (List.cons.inj (show [Value.slice x0 y0 z0] = [u0] from e0)).1
  obtain ⟨a1, rfl, rfl, rfl, w1⟩ := open_int Try.underlying5 (hval 1 5 v1 rfl rfl) h1
  obtain ⟨n1, rfl⟩ := u8_byte w1
  exact calls_true s (vs := [absV W (.slice x0 y0 z0), .i .u8 (n1.toNat : Int)]) ⟨absV_rel W _, rfl, trivial⟩ (heapOrders_ok m0 l0 s1.flo)
set_option maxRecDepth 100000 in
theorem lifted (os : Os) (started : os.Started) (H : Type) (enc : TypeId × Value → H) :
    ReturnsInHanded {} Try.checked os 4 .any (Rows.heapOrdersSpec.pre6 enc Try.prog Try.f4 Rows.heapOrdersRow.domain false) (Rows.heapOrdersSpec.post enc Try.prog Try.f4 false true false false) :=
  law_lifted (C := Try.checked) own started (by kernel_rfl) Try.func4
    (ChangeSpec.witness6 (enc := enc) (C := Try.checked) false ⟨#[], #[.slice none 0 0, .int .u8 0], []⟩ 8 (by kernel_rfl) (by kernel_rfl) (by kernel_rfl) (by kernel_rfl))
    rfl (fun ds hd => by rw [Try.params4] at hd; match ds, hd with | [d1, d2], _ => rfl) laid (by kernel_rfl) (by kernel_rfl) Try.underlying4 (fun W base args ds p hv ho hA => run W base args ds p hv ho hA)
theorem over : Rows.heapOrdersRow.holds Try.pinned (OpenSpec.ofChange Rows.heapOrdersSpec) :=
  OpenClaim.holds_of_wide 4 Try.f4 rfl rfl rfl rfl rfl rfl rfl ⟨rfl, rfl, rfl, rfl, rfl⟩ rfl rfl rfl rfl rfl (by kernel_rfl) Try.func4 (by kernel_rfl)
    (of_decide_eq_true (by kernel_rfl)) (by unfold Func.isWrapper; first | (rw [if_pos (by decide +kernel)]; kernel_rfl) | (rw [if_neg (by decide +kernel)]; exact ⟨rfl, rfl⟩))
    (fun os started H enc _ => lifted os started H enc)
/-- THE STATEMENT -/
theorem proved : Rows.HeapOrdersSaid :=
  over
end Go.Proofs.Ytcaoeoeeaaeieaa.heapOrders
