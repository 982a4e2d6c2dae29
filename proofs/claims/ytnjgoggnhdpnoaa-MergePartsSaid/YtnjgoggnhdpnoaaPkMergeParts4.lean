/- Texts of ours, without what this claim does not use: MgM MgS JrMg JrEntR JrEnt Base NEnt1 NEntR NHp1 NMg2 NMg3 MgJ Wy NMgA NMgB NMgC Knravelinlaw11 NMgP NEntB JrMg2 NMg4 NMg5 MgH ArgE ArgR NMgL MergeParts. No condition. -/
import Derived.Test.YtnjgoggnhdpnoaaPkMergeParts3
import Derived.Test.YtnjgoggnhdpnoaaProg
import Derived.KernelRfl
import Derived.Test.YtnjgoggnhdpnoaaRows
import Derived.WalkKit
import Derived.ProofKit
import Derived.OpenShut
import Derived.ChangeMaps5
set_option linter.all false
namespace Go.Proofs.Ytnjgoggnhdpnoaa
open Go Go.Ev
/-- in order, two places -/
theorem pw_at {L : List Ent} (h : sortedE L = true) {i j : Nat} (hij : i < j) (hj : j < L.length) : lessE (L.getD i default) (L.getD j default) = true := sorted_lt h hij hj
theorem getD_memE {L : List Ent} {i : Nat} (hi : i < L.length) : L.getD i default ∈ L := by rw [List.getD_eq_getElem?_getD, List.getElem?_eq_getElem hi]; simp
theorem mem_getD {L : List Ent} {a : Ent} (h : a ∈ L) : ∃ i, i < L.length ∧ L.getD i default = a := by
  obtain ⟨i, hi, rfl⟩ := List.getElem_of_mem h
  exact ⟨i, hi, by rw [List.getD_eq_getElem?_getD, List.getElem?_eq_getElem hi]; rfl⟩
theorem less_same {a b : Ent} (h : lessE a b = true) (hk : a.key = b.key) : b.seq < a.seq := by
  unfold lessE at h
  rw [if_pos hk, decide_eq_true_eq] at h; exact h
theorem less_of {a b : Ent} (hk : a.key = b.key) (h : b.seq < a.seq) : lessE a b = true := by unfold lessE; rw [if_pos hk, decide_eq_true_eq]; exact h
/-- of one key they stand together -/
theorem key_mid {a b c : Ent} (h1 : lessE a b = true) (h2 : lessE b c = true) (hk : a.key = c.key) : b.key = a.key := by
  refine Classical.byContradiction fun hne => ?_
  have h1' : Op.bytesLess a.key b.key = true := by unfold lessE at h1; rwa [if_neg (fun e => hne e.symm)] at h1
  have h2' : Op.bytesLess b.key c.key = true := by unfold lessE at h2; rwa [if_neg (fun e => hne (e.trans hk.symm))] at h2
  have := bl_trans h1' h2'
  rw [hk, bl_irr] at this; cases this
/-- a newer one of that key, up to s -/
def newer (L : List Ent) (e : Ent) (s : Int) : Bool := L.any fun a => decide (a.key = e.key ∧ e.seq < a.seq ∧ a.seq ≤ s)
theorem newer_iff {L : List Ent} {e : Ent} {s : Int} : newer L e s = true ↔ ∃ a ∈ L, a.key = e.key ∧ e.seq < a.seq ∧ a.seq ≤ s := by
  unfold newer; rw [List.any_eq_true]
  exact ⟨fun ⟨a, h1, h2⟩ => ⟨a, h1, of_decide_eq_true h2⟩, fun ⟨a, h1, h2⟩ => ⟨a, h1, decide_eq_true h2⟩⟩
/-- it stands just ahead -/
theorem newer_at {L : List Ent} (h : sortedE L = true) {i : Nat} (hi : i < L.length) {s : Int} :
    newer L (L.getD i default) s = true ↔ 0 < i ∧ (L.getD (i - 1) default).key = (L.getD i default).key ∧ (L.getD (i - 1) default).seq ≤ s := by
  rw [newer_iff]
  constructor
  · rintro ⟨a, ha, hk, h1, h2⟩
    obtain ⟨j, hj, rfl⟩ := mem_getD ha
    have hji : j < i := by
      rcases Nat.lt_trichotomy j i with h3 | h3 | h3
      · exact h3
      · subst h3; omega
      · have := less_same (pw_at h h3 hj) hk.symm; omega
    refine ⟨by omega, ?_⟩
    by_cases e : j = i - 1
    · rw [← e]; exact ⟨hk, h2⟩
    · have a1 := pw_at h (show j < i - 1 by omega) (by omega)
      have a2 := pw_at h (show i - 1 < i by omega) hi
      have hk2 := key_mid a1 a2 hk
      have := less_same a1 hk2.symm
      exact ⟨hk2.trans hk, by omega⟩
  · rintro ⟨h0, hk, h2⟩
    exact ⟨_, getD_memE (by omega), hk, less_same (pw_at h (show i - 1 < i by omega) hi) hk, h2⟩
/-- what is kept: somebody sees it, or it is the newest -/
def wantP (L : List Ent) (held : List Int) (e : Ent) : Bool := ((1000000 : Int) :: held).any fun n => decide (e.seq ≤ n) && !newer L e n
theorem sub_sorted {A L : List Ent} (h : A.Sublist L) (hs : sortedE L = true) : sortedE A = true := sorted_pw.2 ((sorted_pw.1 hs).sublist h)
/-- rows put together, one by one -/
def addsE (L M : List Ent) : List Ent := M.foldl addE L
theorem addsE_snoc (L M : List Ent) (x : Ent) : addsE L (M ++ [x]) = addE (addsE L M) x := by unfold addsE; rw [List.foldl_append]; rfl
theorem addsE_sorted {M : List Ent} : ∀ {L : List Ent}, sortedE L = true → sortedE (addsE L M) = true := by
  induction M with
  | nil => exact fun h => h
  | cons x M ih => exact fun h => ih (L := addE _ x) (addE_sorted h)
theorem addsE_len {M : List Ent} : ∀ {L : List Ent}, (addsE L M).length ≤ L.length + M.length := by
  induction M with
  | nil => exact fun {L} => Nat.le_refl _
  | cons x M ih =>
    intro L
    have h1 := ih (L := addE L x)
    have h2 := addE_len x L
    show (addsE (addE L x) M).length ≤ _
    rw [List.length_cons]; omega
theorem addsE_app (L A C : List Ent) : addsE L (A ++ C) = addsE (addsE L A) C := by unfold addsE; rw [List.foldl_append]
def rowsE (R : List (List Ent)) : List Ent × Bool := if R.all sortedE then (addsE [] R.flatten, true) else ([], false)
theorem rowsE_bad {R : List (List Ent)} (h : R.all sortedE = false) : rowsE R = ([], false) := by unfold rowsE; rw [h]; rfl
theorem rowsE_ok {R : List (List Ent)} (h : R.all sortedE = true) : rowsE R = (addsE [] R.flatten, true) := by unfold rowsE; rw [h]; rfl
end Go.Proofs.Ytnjgoggnhdpnoaa

set_option linter.all false
namespace Go.Proofs.Ytnjgoggnhdpnoaa
open Go Go.Ev
theorem addsE_from {M : List Ent} : ∀ {L : List Ent} {a : Ent}, a ∈ addsE L M → a ∈ L ∨ a ∈ M := by
  induction M with
  | nil => exact fun h => .inl h
  | cons x M ih =>
    intro L a h
    rcases ih (L := addE L x) h with h | h
    · unfold addE at h
      split at h
      · exact .inl h
      · rcases insE_mem.1 h with e | e
        · exact .inr (by rw [e]; simp)
        · exact .inl e
    · exact .inr (List.mem_cons_of_mem _ h)
theorem addsE_keep {M : List Ent} : ∀ {L : List Ent} {a : Ent}, a ∈ L → a ∈ addsE L M := by
  induction M with
  | nil => exact fun h => h
  | cons x M ih =>
    intro L a h
    refine ih (L := addE L x) ?_
    unfold addE
    split
    · exact h
    · exact insE_mem.2 (.inr h)
theorem addsE_has {M : List Ent} : ∀ {L : List Ent} {x : Ent}, x ∈ M → ∃ a ∈ addsE L M, a.key = x.key ∧ a.seq = x.seq := by
  induction M with
  | nil => exact fun h => by cases h
  | cons y M ih =>
    intro L x h
    rcases List.mem_cons.1 h with e | e
    · subst e
      have : ∃ a ∈ addE L x, a.key = x.key ∧ a.seq = x.seq := by
        unfold addE
        cases hh : hasE L x with
        | true => exact hasE_mem.1 hh
        | false => exact ⟨x, insE_mem.2 (.inl rfl), rfl, rfl⟩
      obtain ⟨a, h1, h2⟩ := this
      exact ⟨a, addsE_keep (L := addE L x) h1, h2⟩
    · exact ih (L := addE L y) e
/-- all of a row in order, in whatever way, are the row -/
theorem addsE_row {R M : List Ent} (hs : sortedE R = true) (h1 : ∀ a ∈ M, a ∈ R) (h2 : ∀ a ∈ R, a ∈ M) : addsE [] M = R := by
  have hu : ∀ a ∈ R, ∀ b ∈ R, a.key = b.key → a.seq = b.seq → a = b := fun a ha b hb hk hq => by
    obtain ⟨i, hi, rfl⟩ := mem_getD ha
    obtain ⟨j, hj, rfl⟩ := mem_getD hb
    rcases Nat.lt_trichotomy i j with h | h | h
    · have := less_same (pw_at hs h hj) hk; omega
    · rw [h]
    · have := less_same (pw_at hs h hi) hk.symm; omega
  have hf : ∀ a, a ∈ addsE [] M → a ∈ R := fun a ha => by
    rcases addsE_from ha with h | h
    · cases h
    · exact h1 a h
  refine sorted_ext (addsE_sorted (L := []) rfl) hs fun a => ⟨hf a, fun ha => ?_⟩
  obtain ⟨b, b1, b2, b3⟩ := addsE_has (L := []) (h2 a ha)
  rw [← hu b (hf b b1) a ha b2 b3]; exact b1
end Go.Proofs.Ytnjgoggnhdpnoaa

set_option maxRecDepth 1000000
set_option linter.all false
namespace Go.Proofs.Ytnjgoggnhdpnoaa
open Go Go.Ev
noncomputable abbrev s10_0 : CC := (CC.cond (tm 7) CC.skip (CC.exit 0))
noncomputable abbrev s10_1 : CC := (CC.seq (CC.region [(wB 4 (doMove (tm 3))), (wB 5 (doMove (tm 0))), (wB 6 (doLen (tm 5))), (wB 7 (bin2 fLss (tm 4) (tm 6)))]) s10_0)
noncomputable abbrev s10_2 : CC := (CC.seq (CC.region [(wB 2 (doMove (O.c (V.b Bool.false))))]) CC.ret)
noncomputable abbrev s10_3 : CC := (CC.cond (tm 25) s10_2 CC.skip)
noncomputable abbrev s10_4 : CC := (CC.seq (CC.region [(wB 10 (doMove (tm 0))), (wB 11 (doMove (tm 3))), (wB 12 (doIndexAddr 4 (tm 10) (tm 11))), (wB 13 (doFieldAddr 0 (tm 12))), (wB 14 (doLoad (tm 13))), (wB 15 (doLenS (tm 14))), (wB 16 (bin2 fGtr (tm 15) (oN 20))), (wB 17 (doMove (tm 16))), (wG 17 false 18 (doMove (tm 0))), (wG 17 false 19 (doMove (tm 3))), (wG 17 false 20 (doIndexAddr 4 (tm 18) (tm 19))), (wG 17 false 21 (doFieldAddr 3 (tm 20))), (wG 17 false 22 (doLoad (tm 21))), (wG 17 false 23 (doLenS (tm 22))), (wG 17 false 24 (bin2 fGtr (tm 23) (oN 40))), (wB 25 (doPick (tm 17) (O.c (V.b Bool.true)) (tm 24)))]) s10_3)
noncomputable abbrev s10_5 : CC := (CC.block 1 s10_4)
noncomputable abbrev s10_6 : CC := (CC.region [(wB 8 (doMove (tm 3))), (wB 9 (bin2 fAdd (tm 8) (oN 1))), (wB 3 (doMove (tm 9)))])
noncomputable abbrev s10_7 : CC := (CC.seq s10_5 s10_6)
noncomputable abbrev l10_0 : CC := (CC.seq s10_1 s10_7)
noncomputable abbrev s10_8 : CC := (CC.loop l10_0)
noncomputable abbrev s10_9 : CC := (CC.block 0 s10_8)
noncomputable abbrev s10_10 : CC := (CC.seq (CC.region [(wB 3 (doMove (oN 0)))]) s10_9)
noncomputable abbrev s10_11 : CC := (CC.seq (CC.region [(wB 26 (doMove (tm 0))), (wB 27 (doLen (tm 26))), (wB 28 (bin2 fLeq (tm 27) (oN 60))), (wB 2 (doMove (tm 28)))]) CC.ret)
noncomputable abbrev s10_12 : CC := (CC.seq s10_10 s10_11)
noncomputable abbrev b10 : CC := (CC.seq (CC.region [(wB 2 (doMove (O.c (V.b Bool.false))))]) s10_12)
theorem c10 : compFn Try.prog 10 = ⟨29, b10, [(Rs.tmp (slOf 2))]⟩ := by kernel_rfl
noncomputable abbrev s9_0 : CC := (CC.cond (tm 7) CC.skip (CC.exit 0))
noncomputable abbrev s9_1 : CC := (CC.seq (CC.region [(wB 4 (doMove (tm 3))), (wB 5 (doMove (tm 0))), (wB 6 (doLen (tm 5))), (wB 7 (bin2 fLss (tm 4) (tm 6)))]) s9_0)
noncomputable abbrev s9_2 : CC := (CC.seq (CC.region [(wB 2 (doMove (O.c (V.b Bool.false))))]) CC.ret)
noncomputable abbrev s9_3 : CC := (CC.cond (tm 23) s9_2 CC.skip)
noncomputable abbrev s9_4 : CC := (CC.seq (CC.region [(wB 10 (doMove (tm 0))), (wB 11 (doMove (tm 3))), (wB 12 (doIndexAddr 1 (tm 10) (tm 11))), (wB 13 (doLoad (tm 12))), (wB 14 (doCall 10 [(tm 13)])), (wB 15 (doNot (tm 14))), (wB 16 (doMove (tm 15))), (wG 16 false 17 (doMove (tm 0))), (wG 16 false 18 (doMove (tm 3))), (wG 16 false 19 (doIndexAddr 1 (tm 17) (tm 18))), (wG 16 false 20 (doLoad (tm 19))), (wG 16 false 21 (doLen (tm 20))), (wG 16 false 22 (bin2 fGtr (tm 21) (oN 25))), (wB 23 (doPick (tm 16) (O.c (V.b Bool.true)) (tm 22)))]) s9_3)
noncomputable abbrev s9_5 : CC := (CC.block 1 s9_4)
noncomputable abbrev s9_6 : CC := (CC.region [(wB 8 (doMove (tm 3))), (wB 9 (bin2 fAdd (tm 8) (oN 1))), (wB 3 (doMove (tm 9)))])
noncomputable abbrev s9_7 : CC := (CC.seq s9_5 s9_6)
noncomputable abbrev l9_0 : CC := (CC.seq s9_1 s9_7)
noncomputable abbrev s9_8 : CC := (CC.loop l9_0)
noncomputable abbrev s9_9 : CC := (CC.block 0 s9_8)
noncomputable abbrev s9_10 : CC := (CC.seq (CC.region [(wB 3 (doMove (oN 0)))]) s9_9)
noncomputable abbrev s9_11 : CC := (CC.seq (CC.region [(wB 24 (doMove (tm 0))), (wB 25 (doLen (tm 24))), (wB 26 (bin2 fLeq (tm 25) (oN 5))), (wB 2 (doMove (tm 26)))]) CC.ret)
noncomputable abbrev s9_12 : CC := (CC.seq s9_10 s9_11)
noncomputable abbrev b9 : CC := (CC.seq (CC.region [(wB 2 (doMove (O.c (V.b Bool.false))))]) s9_12)
end Go.Proofs.Ytnjgoggnhdpnoaa

set_option maxRecDepth 1000000
set_option linter.all false
namespace Go.Proofs.Ytnjgoggnhdpnoaa
open Go Go.Ev
noncomputable abbrev s13_0 : CC := (CC.seq (CC.region [(wB 4 (doMove (O.c (V.b Bool.false))))]) CC.ret)
noncomputable abbrev s13_1 : CC := (CC.cond (tm 10) s13_0 CC.skip)
noncomputable abbrev s13_2 : CC := (CC.seq (CC.region [(wB 6 (doMove (tm 0))), (wB 7 (doLen (tm 6))), (wB 8 (doMove (tm 1))), (wB 9 (doLen (tm 8))), (wB 10 (bin2 fNeq (tm 7) (tm 9)))]) s13_1)
noncomputable abbrev s13_3 : CC := (CC.cond (tm 14) CC.skip (CC.exit 0))
noncomputable abbrev s13_4 : CC := (CC.seq (CC.region [(wB 11 (doMove (tm 5))), (wB 12 (doMove (tm 0))), (wB 13 (doLen (tm 12))), (wB 14 (bin2 fLss (tm 11) (tm 13)))]) s13_3)
noncomputable abbrev s13_5 : CC := (CC.seq (CC.region [(wB 4 (doMove (O.c (V.b Bool.false))))]) CC.ret)
noncomputable abbrev s13_6 : CC := (CC.cond (tm 25) s13_5 CC.skip)
noncomputable abbrev s13_7 : CC := (CC.seq (CC.draws [(uB 17 (doMove (tm 0))), (uB 18 (doMove (tm 5))), (uB 19 (doIndexAddr 4 (tm 17) (tm 18))), (uB 20 (doLoadA 4 (tm 19))), (uB 21 (doMove (tm 1))), (uB 22 (doMove (tm 5))), (uB 23 (doIndexAddr 4 (tm 21) (tm 22))), (uB 24 (doLoadA 4 (tm 23))), (uB 25 (doSEq [KD.s, KD.i, KD.b, KD.s] Bool.true (tm 20) (tm 24)))]) s13_6)
noncomputable abbrev s13_8 : CC := (CC.block 1 s13_7)
noncomputable abbrev s13_9 : CC := (CC.region [(wB 15 (doMove (tm 5))), (wB 16 (bin2 fAdd (tm 15) (oN 1))), (wB 5 (doMove (tm 16)))])
noncomputable abbrev s13_10 : CC := (CC.seq s13_8 s13_9)
noncomputable abbrev l13_0 : CC := (CC.seq s13_4 s13_10)
noncomputable abbrev s13_11 : CC := (CC.loop l13_0)
noncomputable abbrev s13_12 : CC := (CC.block 0 s13_11)
noncomputable abbrev s13_13 : CC := (CC.seq (CC.region [(wB 5 (doMove (oN 0)))]) s13_12)
noncomputable abbrev s13_14 : CC := (CC.seq (CC.region [(wB 4 (doMove (O.c (V.b Bool.true))))]) CC.ret)
noncomputable abbrev s13_15 : CC := (CC.seq s13_13 s13_14)
noncomputable abbrev s13_16 : CC := (CC.seq s13_2 s13_15)
noncomputable abbrev b13 : CC := (CC.seq (CC.region [(wB 4 (doMove (O.c (V.b Bool.false))))]) s13_16)
theorem c13 : compFn Try.prog 13 = ⟨26, b13, [(Rs.tmp (slOf 4))]⟩ := by kernel_rfl
end Go.Proofs.Ytnjgoggnhdpnoaa

set_option maxRecDepth 1000000
set_option linter.all false
namespace Go.Proofs.Ytnjgoggnhdpnoaa
open Go Go.Ev
noncomputable abbrev s33_0 : CC := (CC.seq (CC.region [(wB 10 (doFieldAddr 0 (tm 2))), (wB 11 (doLoad (tm 10))), (wB 12 (doFieldAddr 0 (tm 3))), (wB 13 (doLoad (tm 12))), (wB 14 (doSCmp ltS (tm 11) (tm 13))), (wB 4 (doMove (tm 14)))]) CC.ret)
noncomputable abbrev s33_1 : CC := (CC.cond (tm 9) s33_0 CC.skip)
noncomputable abbrev s33_2 : CC := (CC.seq (CC.region [(wB 5 (doFieldAddr 0 (tm 2))), (wB 6 (doLoad (tm 5))), (wB 7 (doFieldAddr 0 (tm 3))), (wB 8 (doLoad (tm 7))), (wB 9 (doSCmp (fun a b c d => !eqS a b c d) (tm 6) (tm 8)))]) s33_1)
noncomputable abbrev s33_3 : CC := (CC.seq (CC.region [(wB 15 (doFieldAddr 1 (tm 2))), (wB 16 (doLoad (tm 15))), (wB 17 (doFieldAddr 1 (tm 3))), (wB 18 (doLoad (tm 17))), (wB 19 (bin2 fGtr (tm 16) (tm 18))), (wB 4 (doMove (tm 19)))]) CC.ret)
noncomputable abbrev s33_4 : CC := (CC.seq s33_2 s33_3)
noncomputable abbrev b33 : CC := (CC.seq (CC.region [(wB 2 (doBox 39 (tm 0))), (wB 3 (doBox 39 (tm 1))), (wB 4 (doMove (O.c (V.b Bool.false))))]) s33_4)
theorem c33 : compFn Try.prog 33 = ⟨20, b33, [(Rs.tmp (slOf 4))]⟩ := by kernel_rfl
noncomputable abbrev s21_0 : CC := (CC.cond (tm 7) CC.skip (CC.exit 0))
noncomputable abbrev s21_1 : CC := (CC.seq (CC.region [(wB 4 (doMove (tm 3))), (wB 5 (doMove (tm 0))), (wB 6 (doLen (tm 5))), (wB 7 (bin2 fLss (tm 4) (tm 6)))]) s21_0)
noncomputable abbrev s21_2 : CC := (CC.seq (CC.region [(wB 2 (doMove (O.c (V.b Bool.false))))]) CC.ret)
noncomputable abbrev s21_3 : CC := (CC.cond (tm 20) s21_2 CC.skip)
noncomputable abbrev s21_4 : CC := (CC.seq (CC.draws [(uB 10 (doMove (tm 0))), (uB 11 (doMove (tm 3))), (uB 12 (bin2 fSub (tm 11) (oN 1))), (uB 13 (doIndexAddr 4 (tm 10) (tm 12))), (uB 14 (doLoadA 4 (tm 13))), (uB 15 (doMove (tm 0))), (uB 16 (doMove (tm 3))), (uB 17 (doIndexAddr 4 (tm 15) (tm 16))), (uB 18 (doLoadA 4 (tm 17))), (wB 19 (doCall 33 [(tm 14), (tm 18)])), (uB 20 (doNot (tm 19)))]) s21_3)
noncomputable abbrev s21_5 : CC := (CC.block 1 s21_4)
noncomputable abbrev s21_6 : CC := (CC.region [(wB 8 (doMove (tm 3))), (wB 9 (bin2 fAdd (tm 8) (oN 1))), (wB 3 (doMove (tm 9)))])
noncomputable abbrev s21_7 : CC := (CC.seq s21_5 s21_6)
noncomputable abbrev l21_0 : CC := (CC.seq s21_1 s21_7)
noncomputable abbrev s21_8 : CC := (CC.loop l21_0)
noncomputable abbrev s21_9 : CC := (CC.block 0 s21_8)
noncomputable abbrev s21_10 : CC := (CC.seq (CC.region [(wB 3 (doMove (oN 1)))]) s21_9)
noncomputable abbrev s21_11 : CC := (CC.seq (CC.region [(wB 2 (doMove (O.c (V.b Bool.true))))]) CC.ret)
noncomputable abbrev s21_12 : CC := (CC.seq s21_10 s21_11)
noncomputable abbrev b21 : CC := (CC.seq (CC.region [(wB 2 (doMove (O.c (V.b Bool.false))))]) s21_12)
theorem c21 : compFn Try.prog 21 = ⟨21, b21, [(Rs.tmp (slOf 2))]⟩ := by kernel_rfl
noncomputable abbrev s41_0 : CC := (CC.seq (CC.region [(wB 2 (doMove (O.c (V.b Bool.false))))]) CC.ret)
noncomputable abbrev s41_1 : CC := (CC.cond (tm 12) s41_0 CC.skip)
noncomputable abbrev s41_2 : CC := (CC.seq (CC.region [(wB 3 (doFieldAddr 0 (tm 1))), (wB 4 (doLoad (tm 3))), (wB 5 (doLenS (tm 4))), (wB 6 (bin2 fLss (tm 5) (oN 1))), (wB 7 (doMove (tm 6))), (wG 7 false 8 (doFieldAddr 0 (tm 1))), (wG 7 false 9 (doLoad (tm 8))), (wG 7 false 10 (doLenS (tm 9))), (wG 7 false 11 (bin2 fGtr (tm 10) (oN 13))), (wB 12 (doPick (tm 7) (O.c (V.b Bool.true)) (tm 11)))]) s41_1)
noncomputable abbrev s41_3 : CC := (CC.seq (CC.region [(wB 15 (doFieldAddr 2 (tm 1))), (wB 16 (doLoad (tm 15))), (wB 17 (doSCmp eqS (tm 16) (O.c (V.s 0 0)))), (wB 2 (doMove (tm 17)))]) CC.ret)
noncomputable abbrev s41_4 : CC := (CC.cond (tm 14) s41_3 CC.skip)
noncomputable abbrev s41_5 : CC := (CC.seq (CC.region [(wB 13 (doFieldAddr 1 (tm 1))), (wB 14 (doLoad (tm 13)))]) s41_4)
noncomputable abbrev s41_6 : CC := (CC.seq (CC.region [(wB 18 (doFieldAddr 2 (tm 1))), (wB 19 (doLoad (tm 18))), (wB 20 (doLenS (tm 19))), (wB 21 (bin2 fLeq (tm 20) (oN 24))), (wB 2 (doMove (tm 21)))]) CC.ret)
noncomputable abbrev s41_7 : CC := (CC.seq s41_5 s41_6)
noncomputable abbrev s41_8 : CC := (CC.seq s41_2 s41_7)
noncomputable abbrev b41 : CC := (CC.seq (CC.region [(wB 1 (doBox 64 (tm 0))), (wB 2 (doMove (O.c (V.b Bool.false))))]) s41_8)
theorem c41 : compFn Try.prog 41 = ⟨22, b41, [(Rs.tmp (slOf 2))]⟩ := by kernel_rfl
noncomputable abbrev s31_0 : CC := (CC.seq (CC.region [(wB 5 (doFieldAddr 0 (tm 2))), (wB 6 (doLoad (tm 5))), (wB 7 (doFieldAddr 0 (tm 3))), (wB 8 (doLoad (tm 7))), (wB 9 (doSCmp ltS (tm 6) (tm 8))), (wB 10 (doMove (tm 9))), (wG 10 false 11 (doFieldAddr 0 (tm 2))), (wG 10 false 12 (doLoad (tm 11))), (wG 10 false 13 (doFieldAddr 0 (tm 3))), (wG 10 false 14 (doLoad (tm 13))), (wG 10 false 15 (doSCmp eqS (tm 12) (tm 14))), (wG 10 false 16 (doMove (tm 15))), (wG 16 true 17 (doFieldAddr 1 (tm 2))), (wG 16 true 18 (doLoad (tm 17))), (wG 16 true 19 (doFieldAddr 1 (tm 3))), (wG 16 true 20 (doLoad (tm 19))), (wG 16 true 21 (bin2 fGtr (tm 18) (tm 20))), (wG 10 false 22 (doPick (tm 16) (tm 21) (O.c (V.b Bool.false)))), (wB 23 (doPick (tm 10) (O.c (V.b Bool.true)) (tm 22))), (wB 4 (doMove (tm 23)))]) CC.ret)
noncomputable abbrev b31 : CC := (CC.seq (CC.region [(wB 2 (doBox 39 (tm 0))), (wB 3 (doBox 39 (tm 1))), (wB 4 (doMove (O.c (V.b Bool.false))))]) s31_0)
theorem c31 : compFn Try.prog 31 = ⟨24, b31, [(Rs.tmp (slOf 4))]⟩ := by kernel_rfl
noncomputable abbrev s18_0 : CC := (CC.cond (tm 7) CC.skip (CC.exit 0))
noncomputable abbrev s18_1 : CC := (CC.seq (CC.region [(wB 4 (doMove (tm 3))), (wB 5 (doMove (tm 0))), (wB 6 (doLen (tm 5))), (wB 7 (bin2 fLss (tm 4) (tm 6)))]) s18_0)
noncomputable abbrev s18_2 : CC := (CC.seq (CC.region [(wB 2 (doMove (O.c (V.b Bool.false))))]) CC.ret)
noncomputable abbrev s18_3 : CC := (CC.cond (tm 20) s18_2 CC.skip)
noncomputable abbrev s18_4 : CC := (CC.seq (CC.draws [(uB 10 (doMove (tm 0))), (uB 11 (doMove (tm 3))), (uB 12 (bin2 fSub (tm 11) (oN 1))), (uB 13 (doIndexAddr 4 (tm 10) (tm 12))), (uB 14 (doLoadA 4 (tm 13))), (uB 15 (doMove (tm 0))), (uB 16 (doMove (tm 3))), (uB 17 (doIndexAddr 4 (tm 15) (tm 16))), (uB 18 (doLoadA 4 (tm 17))), (wB 19 (doCall 31 [(tm 14), (tm 18)])), (uB 20 (doNot (tm 19)))]) s18_3)
noncomputable abbrev s18_5 : CC := (CC.block 1 s18_4)
noncomputable abbrev s18_6 : CC := (CC.region [(wB 8 (doMove (tm 3))), (wB 9 (bin2 fAdd (tm 8) (oN 1))), (wB 3 (doMove (tm 9)))])
noncomputable abbrev s18_7 : CC := (CC.seq s18_5 s18_6)
noncomputable abbrev l18_0 : CC := (CC.seq s18_1 s18_7)
noncomputable abbrev s18_8 : CC := (CC.loop l18_0)
noncomputable abbrev s18_9 : CC := (CC.block 0 s18_8)
noncomputable abbrev s18_10 : CC := (CC.seq (CC.region [(wB 3 (doMove (oN 1)))]) s18_9)
noncomputable abbrev s18_11 : CC := (CC.seq (CC.region [(wB 2 (doMove (O.c (V.b Bool.true))))]) CC.ret)
noncomputable abbrev s18_12 : CC := (CC.seq s18_10 s18_11)
noncomputable abbrev b18 : CC := (CC.seq (CC.region [(wB 2 (doMove (O.c (V.b Bool.false))))]) s18_12)
theorem c18 : compFn Try.prog 18 = ⟨21, b18, [(Rs.tmp (slOf 2))]⟩ := by kernel_rfl
end Go.Proofs.Ytnjgoggnhdpnoaa

namespace Go.Proofs.Ytnjgoggnhdpnoaa
open Go Go.Ev
theorem hmix : Try.prog.follows .mixedOrders = true := by kernel_rfl
open Go.Ev in
instance {nt : Nat} {t : F} {h : H} {K : X → F → H → Prop} {l : List CO} : St (Ok Try.prog nt (.draws l) t h K) (DO Try.prog l t h (K .normal)) := ⟨Ok.dw hmix⟩
end Go.Proofs.Ytnjgoggnhdpnoaa

set_option maxRecDepth 100000
set_option maxHeartbeats 8000000
set_option linter.all false
namespace Go.Proofs.Ytnjgoggnhdpnoaa
open Go Go.Ev
theorem isWrite_ok {h : H} {k v : List UInt8} {d : Bool} (hf : B.val h.floor ≤ B.val h.next) : FnOk Try.prog 41 [.a [sv k, .b d, sv v]] h fun y h' => y = .b (isW k d v) ∧ Stay nowhere h h' := by
  refine fn_go c41 (by intro hb; cases hb) (by simp) (by simp) fun Q hQ => ?_
  simp only [slotsF, Nat.reduceAdd]
  repeat' (first
    | refine St.h ?_
    | simp (disch := first | omega | (simp only [lnv]; omega)) only [wlk, ↓get_put', ↓reduceIte, seval]
    | (with_reducible (first | apply cd_split | apply gd_split)) <;> (intro hc; (try simp only [hcn] at hc); (try simp only [hc]); (try simp only [hcl] at hc); try omega))
  refine AL.own (by simp) hf fun h1 s1 n1 o1 => ?_
  repeat' (first
    | refine St.h ?_
    | simp (disch := first | omega | (simp only [lnv]; omega)) only [wlk, ↓get_put', ↓reduceIte, seval, o1.row.l1]
    | (with_reducible (first | apply cd_split | apply gd_split)) <;> (intro hc; (try simp only [hcn] at hc); (try simp only [hc]); (try simp only [hcl] at hc); try omega))
  all_goals (subst hQ; refine ⟨?_, s1⟩; congr 1; symm; first | exact isW_lo (by assumption) | exact isW_hi (by assumption) | exact isW_t (by assumption) (by assumption) (by assumption) | exact isW_f (by assumption) (by assumption) (by assumption))
theorem less_ok {h : H} {a b : Ent} (hf : B.val h.floor ≤ B.val h.next) : FnOk Try.prog 33 [.a [sv a.key, .i .i64 a.seq, .b a.del, sv a.val], .a [sv b.key, .i .i64 b.seq, .b b.del, sv b.val]] h fun y h' => y = .b (lessE a b) ∧ Stay nowhere h h' := by
  refine fn_go c33 (by intro hb; cases hb) (by simp) (by simp) fun Q hQ => ?_
  simp only [slotsF, Nat.reduceAdd]
  repeat' (first
    | refine St.h ?_
    | simp (disch := first | omega | (simp only [lnv]; omega)) only [wlk, ↓get_put', ↓reduceIte, seval]
    | (with_reducible (first | apply cd_split | apply gd_split)) <;> (intro hc; (try simp only [hcn] at hc); (try simp only [hc]); (try simp only [hcl] at hc); try omega))
  refine AL.own (by simp) hf fun h1 s1 n1 o1 => ?_
  repeat' (first
    | refine St.h ?_
    | simp (disch := first | omega | (simp only [lnv]; omega)) only [wlk, ↓get_put', ↓reduceIte, seval]
    | (with_reducible (first | apply cd_split | apply gd_split)) <;> (intro hc; (try simp only [hcn] at hc); (try simp only [hc]); (try simp only [hcl] at hc); try omega))
  refine AL.own (by simp) (s1.fl hf) fun h2 s2 n2 o2 => ?_
  have o1' := o1.stay s2 fun h => h
  by_cases hk : a.key = b.key
  · repeat' (first
      | refine St.h ?_
      | simp (disch := first | omega | (simp only [lnv]; omega)) only [wlk, ↓get_put', ↓reduceIte, seval, o1'.row.l1, o2.row.l1, hk]
      | (with_reducible (first | apply cd_split | apply gd_split)) <;> (intro hc; (try simp only [hcn] at hc); (try simp only [hc]); (try simp only [hcl] at hc); try omega))
    subst hQ
    exact ⟨by rw [lessE_eq hk], s1.trans s2⟩
  · repeat' (first
      | refine St.h ?_
      | simp (disch := first | omega | (simp only [lnv]; omega)) only [wlk, ↓get_put', ↓reduceIte, seval, o1'.row.l1, o2.row.l1, hk]
      | (with_reducible (first | apply cd_split | apply gd_split)) <;> (intro hc; (try simp only [hcn] at hc); (try simp only [hc]); (try simp only [hcl] at hc); try omega))
    subst hQ
    exact ⟨by rw [lessE_ne hk], s1.trans s2⟩
theorem rless_ok {h : H} {a b : Ent} (hf : B.val h.floor ≤ B.val h.next) : FnOk Try.prog 31 [.a [sv a.key, .i .i64 a.seq, .b a.del, sv a.val], .a [sv b.key, .i .i64 b.seq, .b b.del, sv b.val]] h fun y h' => y = .b (lessE a b) ∧ Stay nowhere h h' := by
  refine fn_go c31 (by intro hb; cases hb) (by simp) (by simp) fun Q hQ => ?_
  simp only [slotsF, Nat.reduceAdd]
  repeat' (first
    | refine St.h ?_
    | simp (disch := first | omega | (simp only [lnv]; omega)) only [wlk, ↓get_put', ↓reduceIte, seval]
    | (with_reducible (first | apply cd_split | apply gd_split)) <;> (intro hc; (try simp only [hcn] at hc); (try simp only [hc]); (try simp only [hcl] at hc); try omega))
  refine AL.own (by simp) hf fun h1 s1 n1 o1 => ?_
  repeat' (first
    | refine St.h ?_
    | simp (disch := first | omega | (simp only [lnv]; omega)) only [wlk, ↓get_put', ↓reduceIte, seval]
    | (with_reducible (first | apply cd_split | apply gd_split)) <;> (intro hc; (try simp only [hcn] at hc); (try simp only [hc]); (try simp only [hcl] at hc); try omega))
  refine AL.own (by simp) (s1.fl hf) fun h2 s2 n2 o2 => ?_
  have o1' := o1.stay s2 fun h => h
  cases hb : Op.bytesLess a.key b.key with
  | true =>
    repeat' (first
      | refine St.h ?_
      | simp (disch := first | omega | (simp only [lnv]; omega)) only [wlk, ↓get_put', ↓reduceIte, seval, o1'.row.l1, o2.row.l1, hb]
      | (with_reducible (first | apply cd_split | apply gd_split)) <;> (intro hc; (try simp only [hcn] at hc); (try simp only [hc]); (try simp only [hcl] at hc); try omega))
    subst hQ
    exact ⟨by rw [lessE_lt hb], s1.trans s2⟩
  | false =>
    by_cases hk : a.key = b.key
    · rw [hk] at hb
      repeat' (first
        | refine St.h ?_
        | simp (disch := first | omega | (simp only [lnv]; omega)) only [wlk, ↓get_put', ↓reduceIte, seval, o1'.row.l1, o2.row.l1, hk, hb]
        | (with_reducible (first | apply cd_split | apply gd_split)) <;> (intro hc; (try simp only [hcn] at hc); (try simp only [hc]); (try simp only [hcl] at hc); try omega))
      subst hQ
      exact ⟨by rw [lessE_eq hk], s1.trans s2⟩
    · repeat' (first
        | refine St.h ?_
        | simp (disch := first | omega | (simp only [lnv]; omega)) only [wlk, ↓get_put', ↓reduceIte, seval, o1'.row.l1, o2.row.l1, hk, hb]
        | (with_reducible (first | apply cd_split | apply gd_split)) <;> (intro hc; (try simp only [hcn] at hc); (try simp only [hc]); (try simp only [hcl] at hc); try omega))
      subst hQ
      exact ⟨by rw [lessE_ne hk, hb], s1.trans s2⟩
theorem sorted_ok {h : H} {v : V} {L : List Ent} (hL : Es h v L) (hl : L.length ≤ 9223372036854775807) (hf : B.val h.floor ≤ B.val h.next) : FnOk Try.prog 21 [v] h fun y h' => y = .b (sortedE L) ∧ Stay nowhere h h' := by
  refine fn_go c21 (by intro hb; cases hb) (by simp) (by simp) fun Q hQ => ?_
  simp only [slotsF, Nat.reduceAdd]
  repeat' (first
    | refine St.h ?_
    | simp (disch := first | omega | (simp only [lnv]; omega)) only [wlk, ↓get_put', ↓reduceIte, seval]
    | (with_reducible (first | apply cd_split | apply gd_split)) <;> (intro hc; (try simp only [hcn] at hc); (try simp only [hc]); (try simp only [hcl] at hc); try omega))
  refine Ok.lp (fun m t g => ∃ j : Nat, m = L.length - j ∧ Stay nowhere h g ∧ srtU L j = true ∧ j ≤ L.length - 1 ∧ get 0 t = v ∧ get 3 t = .i .i64 ((j : Int) + 1)) L.length ?_ ?_
  · simp (disch := first | omega | (simp only [lnv]; omega)) only [wlk, ↓get_put', ↓reduceIte, seval]
    exact ⟨0, by omega, Stay.refl _ _, rfl, by omega, trivial, rfl⟩
  rintro I hI m t g ⟨j, rfl, st, hs, hj, f0, f3⟩
  have hL' := hL.grow st
  have ej : (j : Int) + 1 - 1 = (j : Int) := by omega
  have ek : ((j : Int) + 1).toNat = j + 1 := by omega
  repeat' (first
    | refine St.h ?_
    | simp (disch := first | omega | (simp only [lnv]; omega)) only [wlk, ↓get_put', ↓reduceIte, seval, f0, f3, hL.ln, hL.ix, hL'.la, ej, ek, Int.toNat_natCast]
    | (with_reducible (first | apply cd_split | apply gd_split)) <;> (intro hc; (try simp only [hcn] at hc); (try simp only [hc]); (try simp only [hcl] at hc); try omega))
  · refine CL.stay (less_ok (st.fl hf)) fun h1 s1 => ?_
    cases hb : lessE (L.getD j default) (L.getD (j + 1) default) with
    | false =>
      repeat' (first
        | refine St.h ?_
        | simp (disch := first | omega | (simp only [lnv]; omega)) only [wlk, ↓get_put', ↓reduceIte, seval, f0, f3]
        | (with_reducible (first | apply cd_split | apply gd_split)) <;> (intro hc; (try simp only [hcn] at hc); (try simp only [hc]); (try simp only [hcl] at hc); try omega))
      subst hQ
      exact ⟨by rw [sorted_no (by omega) hb], st.trans s1⟩
    | true =>
      repeat' (first
        | refine St.h ?_
        | simp (disch := first | omega | (simp only [lnv]; omega)) only [wlk, ↓get_put', ↓reduceIte, seval, f0, f3]
        | (with_reducible (first | apply cd_split | apply gd_split)) <;> (intro hc; (try simp only [hcn] at hc); (try simp only [hc]); (try simp only [hcl] at hc); try omega))
      refine lp_next hI (L.length - (j + 1)) (by omega) ⟨j + 1, rfl, st.trans s1, by rw [srtU_succ, hs, hb]; rfl, by omega, ?_, ?_⟩
      · simp (disch := first | omega | (simp only [lnv]; omega)) only [wlk, ↓get_put', ↓reduceIte, seval, f0]
      · simp (disch := first | omega | (simp only [lnv]; omega)) only [wlk, ↓get_put', ↓reduceIte, seval]; rfl
  · subst hQ
    obtain rfl : j = L.length - 1 := by omega
    exact ⟨by rw [show sortedE L = true from hs], st⟩
theorem rsorted_ok {h : H} {v : V} {L : List Ent} (hL : Es h v L) (hl : L.length ≤ 9223372036854775807) (hf : B.val h.floor ≤ B.val h.next) : FnOk Try.prog 18 [v] h fun y h' => y = .b (sortedE L) ∧ Stay nowhere h h' := by
  refine fn_go c18 (by intro hb; cases hb) (by simp) (by simp) fun Q hQ => ?_
  simp only [slotsF, Nat.reduceAdd]
  repeat' (first
    | refine St.h ?_
    | simp (disch := first | omega | (simp only [lnv]; omega)) only [wlk, ↓get_put', ↓reduceIte, seval]
    | (with_reducible (first | apply cd_split | apply gd_split)) <;> (intro hc; (try simp only [hcn] at hc); (try simp only [hc]); (try simp only [hcl] at hc); try omega))
  refine Ok.lp (fun m t g => ∃ j : Nat, m = L.length - j ∧ Stay nowhere h g ∧ srtU L j = true ∧ j ≤ L.length - 1 ∧ get 0 t = v ∧ get 3 t = .i .i64 ((j : Int) + 1)) L.length ?_ ?_
  · simp (disch := first | omega | (simp only [lnv]; omega)) only [wlk, ↓get_put', ↓reduceIte, seval]
    exact ⟨0, by omega, Stay.refl _ _, rfl, by omega, trivial, rfl⟩
  rintro I hI m t g ⟨j, rfl, st, hs, hj, f0, f3⟩
  have hL' := hL.grow st
  have ej : (j : Int) + 1 - 1 = (j : Int) := by omega
  have ek : ((j : Int) + 1).toNat = j + 1 := by omega
  repeat' (first
    | refine St.h ?_
    | simp (disch := first | omega | (simp only [lnv]; omega)) only [wlk, ↓get_put', ↓reduceIte, seval, f0, f3, hL.ln, hL.ix, hL'.la, ej, ek, Int.toNat_natCast]
    | (with_reducible (first | apply cd_split | apply gd_split)) <;> (intro hc; (try simp only [hcn] at hc); (try simp only [hc]); (try simp only [hcl] at hc); try omega))
  · refine CL.stay (rless_ok (st.fl hf)) fun h1 s1 => ?_
    cases hb : lessE (L.getD j default) (L.getD (j + 1) default) with
    | false =>
      repeat' (first
        | refine St.h ?_
        | simp (disch := first | omega | (simp only [lnv]; omega)) only [wlk, ↓get_put', ↓reduceIte, seval, f0, f3]
        | (with_reducible (first | apply cd_split | apply gd_split)) <;> (intro hc; (try simp only [hcn] at hc); (try simp only [hc]); (try simp only [hcl] at hc); try omega))
      subst hQ
      exact ⟨by rw [sorted_no (by omega) hb], st.trans s1⟩
    | true =>
      repeat' (first
        | refine St.h ?_
        | simp (disch := first | omega | (simp only [lnv]; omega)) only [wlk, ↓get_put', ↓reduceIte, seval, f0, f3]
        | (with_reducible (first | apply cd_split | apply gd_split)) <;> (intro hc; (try simp only [hcn] at hc); (try simp only [hc]); (try simp only [hcl] at hc); try omega))
      refine lp_next hI (L.length - (j + 1)) (by omega) ⟨j + 1, rfl, st.trans s1, by rw [srtU_succ, hs, hb]; rfl, by omega, ?_, ?_⟩
      · simp (disch := first | omega | (simp only [lnv]; omega)) only [wlk, ↓get_put', ↓reduceIte, seval, f0]
      · simp (disch := first | omega | (simp only [lnv]; omega)) only [wlk, ↓get_put', ↓reduceIte, seval]; rfl
  · subst hQ
    obtain rfl : j = L.length - 1 := by omega
    exact ⟨by rw [show sortedE L = true from hs], st⟩
end Go.Proofs.Ytnjgoggnhdpnoaa

set_option maxRecDepth 100000
set_option maxHeartbeats 8000000
set_option linter.all false
namespace Go.Proofs.Ytnjgoggnhdpnoaa
open Go Go.Ev
theorem own_lt' {h : H} {id : B} {xs : List V} (o : Ev.Own h id xs) : B.val id < B.val h.next := by obtain ⟨_, _, _, _, _, _, h6, _⟩ := o; exact h6
theorem ent_ext {a b : Ent} (h : a.key = b.key ∧ a.seq = b.seq ∧ a.del = b.del ∧ a.val = b.val) : a = b := by
  obtain ⟨k1, q1, d1, v1⟩ := a
  obtain ⟨k2, q2, d2, v2⟩ := b
  obtain ⟨rfl, rfl, rfl, rfl⟩ := h
  rfl
theorem rsame_ok {h : H} {v w : V} {L M : List Ent} (hL : Es h v L) (hM : Es h w M) (hl : L.length ≤ 9223372036854775807) : FnOk Try.prog 13 [v, w] h fun y h' => y = .b (decide (L = M)) ∧ h' = h := by
  refine fn_go c13 (by intro hb; cases hb) (by simp) (by simp) fun Q hQ => ?_
  simp only [slotsF, Nat.reduceAdd]
  by_cases hlen : L.length = M.length
  case neg =>
    have hd : ((L.length : Int) = (M.length : Int)) = False := eq_false (by omega)
    repeat' (first
      | refine St.h ?_
      | simp (disch := first | omega | (simp only [lnv]; omega)) only [wlk, ↓get_put', ↓reduceIte, seval, hL.ln, hM.ln, hd]
      | (with_reducible (first | apply cd_split | apply gd_split)) <;> (intro hc; (try simp only [hcn] at hc); (try simp only [hc]); (try simp only [hcl] at hc); try omega))
    subst hQ
    exact ⟨by rw [decide_eq_false (fun e => hlen (by rw [e]))], rfl⟩
  have hd : ((L.length : Int) = (M.length : Int)) = True := eq_true (by omega)
  repeat' (first
    | refine St.h ?_
    | simp (disch := first | omega | (simp only [lnv]; omega)) only [wlk, ↓get_put', ↓reduceIte, seval, hL.ln, hM.ln, hd]
    | (with_reducible (first | apply cd_split | apply gd_split)) <;> (intro hc; (try simp only [hcn] at hc); (try simp only [hc]); (try simp only [hcl] at hc); try omega))
  refine Ok.lp (fun m t g => ∃ j : Nat, m = L.length - j ∧ h = g ∧ (∀ i, i < j → L.getD i default = M.getD i default) ∧ j ≤ L.length ∧ get 0 t = v ∧ get 1 t = w ∧ get 5 t = .i .i64 (j : Int)) L.length ?_ ?_
  · simp (disch := first | omega | (simp only [lnv]; omega)) only [wlk, ↓get_put', ↓reduceIte, seval]
    refine ⟨0, by omega, trivial, fun i hi => by omega, by omega, ?_⟩
    repeat' (first | trivial | rfl | refine And.intro ?_ ?_)
  rintro I hI m t g ⟨j, rfl, rfl, he, hj, f0, f1, f5⟩
  by_cases hje : L.getD j default = M.getD j default
  · have hd2 : (M.getD j default).key = (M.getD j default).key ∧ (M.getD j default).seq = (M.getD j default).seq ∧ (M.getD j default).del = (M.getD j default).del ∧ (M.getD j default).val = (M.getD j default).val := ⟨rfl, rfl, rfl, rfl⟩
    repeat' (first
      | refine St.h ?_
      | simp (disch := first | omega | (simp only [lnv]; omega)) only [wlk, ↓get_put', ↓reduceIte, seval, f0, f1, f5, hL.ln, hL.ix, hM.ix, hL.la, hM.la, hje, Int.toNat_natCast]
      | (with_reducible (first | apply cd_split | apply gd_split)) <;> (intro hc; (try simp only [hcn] at hc); (try simp only [hc]); (try simp only [hcl] at hc); try omega))
    · refine lp_next hI (L.length - (j + 1)) (by omega) ⟨j + 1, rfl, rfl, fun i hi => ?_, by omega, ?_, ?_, ?_⟩
      · by_cases e : i = j
        · subst e; exact hje
        · exact he i (by omega)
      · simp (disch := first | omega | (simp only [lnv]; omega)) only [wlk, ↓get_put', ↓reduceIte, seval, f0]
      · simp (disch := first | omega | (simp only [lnv]; omega)) only [wlk, ↓get_put', ↓reduceIte, seval, f1]
      · simp (disch := first | omega | (simp only [lnv]; omega)) only [wlk, ↓get_put', ↓reduceIte, seval]; rfl
    · obtain rfl : j = L.length := by omega
      subst hQ
      refine ⟨?_, rfl⟩
      rw [decide_eq_true]
      refine List.ext_getElem hlen fun i h1 h2 => ?_
      have := he i h1
      simpa [List.getD, h1, h2] using this
  · have hd2 : decide ((L.getD j default).key = (M.getD j default).key ∧ (L.getD j default).seq = (M.getD j default).seq ∧ (L.getD j default).del = (M.getD j default).del ∧ (L.getD j default).val = (M.getD j default).val) = false := decide_eq_false fun e => hje (ent_ext e)
    repeat' (first
      | refine St.h ?_
      | simp (disch := first | omega | (simp only [lnv]; omega)) only [wlk, ↓get_put', ↓reduceIte, seval, f0, f1, f5, hL.ln, hL.ix, hM.ix, hL.la, hM.la, hd2, Int.toNat_natCast]
      | (with_reducible (first | apply cd_split | apply gd_split)) <;> (intro hc; (try simp only [hcn] at hc); (try simp only [hc]); (try simp only [hcl] at hc); try omega))
    · subst hQ
      exact ⟨by rw [decide_eq_false (fun e => hje (by rw [e]))], rfl⟩
    · obtain rfl : j = L.length := by omega
      exact absurd (by simp [List.getD, ← hlen]) hje
theorem drop_ent {L : List Ent} {i : Nat} (hi : i < L.length) : L.drop i = L.getD i default :: L.drop (i + 1) := by
  rw [List.drop_eq_getElem_cons hi]; simp [List.getD, hi]
theorem take_ent {L : List Ent} {i : Nat} (hi : i < L.length) : L.take (i + 1) = L.take i ++ [L.getD i default] := by
  rw [List.take_succ]; simp [List.getD, hi]
theorem fp_sw {n : Nat} {x : V} (w : SwN n x) {P : Program} {off : Nat} {ps : List Pt} {t : F} {z : List V} {e : Option (Nat × Nat)} {h : H} {N : Nx} : FP P off 1 x ps t z e h N = if off + 1 ≤ z.length then FL P ps t (z.take off ++ (x :: z.drop (off + 1))) e h N else FPJ P off 1 x ps t z e h N := by
  rcases w with rfl | ⟨_, _, _, _, _, _, rfl, _⟩
  · exact fp_l0
  · exact fp_l
/-- a block, as it lies -/
structure Bk where
  v : V
  l : List Ent
instance : Inhabited Bk := ⟨⟨.l0, []⟩⟩
def bkC (b : Bk) : List V := [b.v]
theorem bkC_len (b : Bk) : (bkC b).length = 1 := rfl
/-- blocks, as they lie -/
structure Bls (h : H) (v : V) (bs : List (List Ent)) (ks : List Bk) : Prop where
  ss : Ss 1 bkC h v ks
  eq : ks.map (·.l) = bs
  es : ∀ k ∈ ks, Es h k.v k.l
section
variable {P : Program} {h h' g' : H} {N : Nx} {v : V} {bs : List (List Ent)} {ks : List Bk} {i : Nat}
theorem Bls.len (a : Bls h v bs ks) : ks.length = bs.length := by rw [← a.eq, List.length_map]
theorem Bls.ln (a : Bls h v bs ks) : H1 P gLen v g' N = N.go P (.i .i64 (bs.length : Int)) g' := by rw [← a.len]; exact a.ss.ln
theorem Bls.ix (a : Bls h v bs ks) (hi : i < bs.length) : IX P 1 v i g' N = N.go P (.p (lid v) (lg v) (loff v + i) (lfin v)) g' := by
  have := a.ss.ix (P := P) (g' := g') (N := N) (i := i) (by rw [a.len]; exact hi)
  rwa [Nat.mul_one] at this
theorem Bls.ld (a : Bls h v bs ks) (hi : i < bs.length) : L1 P (lid v) (lg v) (loff v + i) (lfin v) h N = N.go P (ks.getD i default).v h := by
  have := a.ss.ld (P := P) (N := N) (i := i) (d := 0) bkC_len (by rw [a.len]; exact hi) (by omega)
  rwa [Nat.mul_one] at this
theorem Bls.grow (a : Bls h v bs ks) (s : Stay nowhere h h') : Bls h' v bs ks := ⟨a.ss.grow s, a.eq, fun k hk => (a.es k hk).grow s⟩
theorem Bls.at (a : Bls h v bs ks) (hi : i < bs.length) : Es h (ks.getD i default).v (bs.getD i []) := by
  have hk : i < ks.length := by rw [a.len]; exact hi
  have h1 := a.es (ks.getD i default) (by rw [List.getD_eq_getElem?_getD, List.getElem?_eq_getElem hk]; simp)
  have h2 : bs.getD i [] = (ks.getD i default).l := by rw [← a.eq]; simp [List.getD, List.getElem?_eq_getElem hk]
  rw [h2]; exact h1
end
end Go.Proofs.Ytnjgoggnhdpnoaa

set_option maxRecDepth 100000
set_option maxHeartbeats 8000000
set_option linter.all false
namespace Go.Proofs.Ytnjgoggnhdpnoaa
open Go Go.Ev
theorem swn_bufE {h : H} {el n : Nat} {v : V} {xs : List V} (b : Buf h el n v xs) : SwN n v := by
  rcases b with ⟨rfl, _⟩ | ⟨id, g, m, blk, rfl, h1, h2, _⟩
  · exact .inl rfl
  · exact .inr ⟨_, _, _, _, _, _, rfl, by show xs.length = 0 + m * n; omega⟩
end Go.Proofs.Ytnjgoggnhdpnoaa

set_option maxRecDepth 100000
set_option maxHeartbeats 8000000
set_option linter.all false
namespace Go.Proofs.Ytnjgoggnhdpnoaa
open Go Go.Ev
theorem flat_len_at : ∀ {R : List (List Ent)} {i : Nat}, i < R.length → (R.take i).flatten.length + (R.getD i []).length ≤ R.flatten.length
  | [], i, h => by simp at h
  | a :: R, 0, h => by simp
  | a :: R, i + 1, h => by
    have := flat_len_at (R := R) (i := i) (by simpa using h)
    rw [List.take_succ_cons, List.flatten_cons, List.flatten_cons, List.length_append, List.length_append]
    simp only [List.getD_cons_succ]; omega
theorem filter_takeE {L : List Ent} {q : Ent → Bool} {i : Nat} (hi : i < L.length) : (L.take (i + 1)).filter q = (L.take i).filter q ++ (if q (L.getD i default) then [L.getD i default] else []) := by
  rw [take_ent hi, List.filter_append, List.filter_cons, List.filter_nil]
end Go.Proofs.Ytnjgoggnhdpnoaa

set_option maxRecDepth 100000
set_option maxHeartbeats 8000000
set_option linter.all false
namespace Go.Proofs.Ytnjgoggnhdpnoaa
open Go Go.Ev
/-- the number of the next newer one of that key -/
def nwE (L : List Ent) (i : Nat) : Int := if 0 < i ∧ (L.getD (i - 1) default).key = (L.getD i default).key then (L.getD (i - 1) default).seq else 1000001
theorem want_nw {L : List Ent} {held : List Int} {i : Nat} (ha : L.all isE = true) (hs : sortedE L = true) (hi : i < L.length) :
    wantP L held (L.getD i default) = (decide (1000000 < nwE L i) || held.any fun n => decide ((L.getD i default).seq ≤ n) && decide (n < nwE L i)) := by
  have h1 := (isE_iff.1 (List.all_eq_true.1 ha _ (getD_memE hi))).1
  unfold wantP nwE
  rw [List.any_cons]
  by_cases hp : 0 < i ∧ (L.getD (i - 1) default).key = (L.getD i default).key
  · rw [if_pos hp]
    have h2 := (isE_iff.1 (List.all_eq_true.1 ha _ (getD_memE (i := i - 1) (by omega)))).1
    have hn : ∀ n : Int, newer L (L.getD i default) n = decide ((L.getD (i - 1) default).seq ≤ n) := fun n => by
      by_cases hc : (L.getD (i - 1) default).seq ≤ n
      · rw [decide_eq_true hc]; exact (newer_at hs hi).2 ⟨hp.1, hp.2, hc⟩
      · rw [decide_eq_false hc]
        cases hh : newer L (L.getD i default) n with
        | false => rfl
        | true => exact absurd ((newer_at hs hi).1 hh).2.2 hc
    rw [hn, decide_eq_true (p := (L.getD (i - 1) default).seq ≤ 1000000) (by omega), Bool.not_true, Bool.and_false, Bool.false_or, decide_eq_false (p := 1000000 < (L.getD (i - 1) default).seq) (by omega), Bool.false_or]
    congr 1
    funext n
    rw [hn]
    congr 1
    by_cases hc : (L.getD (i - 1) default).seq ≤ n
    · rw [decide_eq_true hc, decide_eq_false (p := n < (L.getD (i - 1) default).seq) (by omega)]; rfl
    · rw [decide_eq_false hc, decide_eq_true (p := n < (L.getD (i - 1) default).seq) (by omega)]; rfl
  · rw [if_neg hp]
    have hn : newer L (L.getD i default) 1000000 = false := by
      cases hh : newer L (L.getD i default) 1000000 with
      | false => rfl
      | true => have := (newer_at hs hi).1 hh; exact absurd ⟨this.1, this.2.1⟩ hp
    rw [hn, decide_eq_true (p := (L.getD i default).seq ≤ 1000000) (by omega), decide_eq_true (p := (1000000 : Int) < 1000001) (by omega)]; rfl
theorem drop_entM {K : List Ent} {i : Nat} (hi : i < K.length) : K.drop i = K.getD i default :: K.drop (i + 1) := drop_ent hi
theorem allOne_entM : ∀ L : List Ent, allOne (L.flatMap entC) = true
  | [] => rfl
  | a :: L => allOne_entM L
end Go.Proofs.Ytnjgoggnhdpnoaa

set_option linter.all false
namespace Go.Proofs.Ytnjgoggnhdpnoaa
open Go Go.Ev
theorem addE_mem {A : List Ent} {x a : Ent} : a ∈ addE A x ↔ a ∈ A ∨ (a = x ∧ hasE A x = false) := by
  cases h : hasE A x with
  | true => rw [addE_has h]; simp
  | false => rw [addE_new h, insE_mem]; simp [or_comm]
theorem hasE_add {A : List Ent} {x y : Ent} (h : ¬ (x.key = y.key ∧ x.seq = y.seq)) : hasE (addE A x) y = hasE A y := by
  rw [Bool.eq_iff_iff, hasE_mem, hasE_mem]
  constructor
  · rintro ⟨a, h1, h2⟩
    rcases addE_mem.1 h1 with e | ⟨rfl, _⟩
    · exact ⟨a, e, h2⟩
    · exact absurd h2 h
  · rintro ⟨a, h1, h2⟩
    exact ⟨a, addE_mem.2 (.inl h1), h2⟩
theorem addE_comm {A : List Ent} {x y : Ent} (hs : sortedE A = true) (h : ¬ (x.key = y.key ∧ x.seq = y.seq)) : addE (addE A x) y = addE (addE A y) x := by
  refine sorted_ext (addE_sorted (addE_sorted hs)) (addE_sorted (addE_sorted hs)) fun a => ?_
  rw [addE_mem, addE_mem, addE_mem, addE_mem, hasE_add h, hasE_add fun e => h ⟨e.1.symm, e.2.symm⟩]
  constructor
  · rintro ((h1 | h1) | h1)
    · exact .inl (.inl h1)
    · exact .inr h1
    · exact .inl (.inr h1)
  · rintro ((h1 | h1) | h1)
    · exact .inl (.inl h1)
    · exact .inr h1
    · exact .inl (.inr h1)
theorem hasE_cons {S : List Ent} {s y : Ent} (h : hasE (s :: S) y = false) : ¬ (s.key = y.key ∧ s.seq = y.seq) ∧ hasE S y = false := by
  unfold hasE at h ⊢
  rw [List.any_cons, Bool.or_eq_false_iff] at h
  exact ⟨of_decide_eq_false h.1, h.2⟩
theorem addsE_comm {S : List Ent} : ∀ {A : List Ent} {y : Ent}, sortedE A = true → hasE S y = false → addsE (addE A y) S = addE (addsE A S) y := by
  induction S with
  | nil => intro A y _ _; rfl
  | cons s S ih =>
    intro A y hs h
    obtain ⟨h1, h2⟩ := hasE_cons h
    show addsE (addE (addE A y) s) S = addE (addsE (addE A s) S) y
    rw [← addE_comm hs h1, ih (addE_sorted hs) h2]
theorem addsE_ins {S : List Ent} : ∀ {A : List Ent} {y : Ent}, sortedE A = true → hasE S y = false → addsE A (insE y S) = addE (addsE A S) y := by
  induction S with
  | nil => intro A y _ _; rfl
  | cons s S ih =>
    intro A y hs h
    unfold insE
    split
    · exact addsE_comm hs h
    · exact ih (A := addE A s) (addE_sorted hs) (hasE_cons h).2
/-- put together by parts -/
theorem addsE_adds {A M : List Ent} (hs : sortedE A = true) : addsE A (addsE [] M) = addsE A M := by
  have go : ∀ k, k ≤ M.length → addsE A (addsE [] (M.take k)) = addsE A (M.take k) := by
    intro k
    induction k with
    | zero => intro _; rfl
    | succ k ih =>
      intro hk
      have ih := ih (by omega)
      rw [take_ent (by omega), addsE_snoc, addsE_snoc]
      generalize M.take k = T at *
      generalize M.getD k default = y at *
      cases hh : hasE (addsE [] T) y with
      | true =>
        rw [addE_has hh, ih]
        obtain ⟨a, a1, a2⟩ := hasE_mem.1 hh
        have ha : a ∈ T := (addsE_from a1).resolve_left (by simp)
        obtain ⟨b, b1, b2, b3⟩ := addsE_has (L := A) ha
        rw [addE_has (hasE_mem.2 ⟨b, b1, b2.trans a2.1, b3.trans a2.2⟩)]
      | false => rw [addE_new hh, addsE_ins hs hh, ih]
  have := go M.length (Nat.le_refl _)
  rwa [List.take_length] at this
theorem rows_halves {R : List (List Ent)} (k : Nat) : addsE (addsE [] (R.take k).flatten) (addsE [] (R.drop k).flatten) = addsE [] R.flatten := by
  rw [addsE_adds (addsE_sorted (L := []) rfl), ← addsE_app, ← List.flatten_append, List.take_append_drop]
theorem rows_one {r : List Ent} (h : sortedE r = true) : addsE [] [r].flatten = r := by
  rw [List.flatten_cons, List.flatten_nil, List.append_nil]
  exact addsE_row h (fun _ h => h) (fun _ h => h)
/-- what is less than all that is left goes between -/
theorem jn_new {J C : List Ent} {e : Ent} (hJ : ∀ a ∈ J, lessE a e = true) (hC : sortedE C = true) (h : C = [] ∨ lessE e (C.getD 0 default) = true) : addE (J ++ C) e = J ++ e :: C := by
  have hle : ∀ c ∈ C, lessE e c = true := fun c hc => by
    obtain ⟨i, hi, rfl⟩ := mem_getD hc
    rcases h with h | h
    · rw [h] at hc; cases hc
    · by_cases e0 : i = 0
      · rw [e0]; exact h
      · exact lessE_trans h (pw_at hC (by omega) hi)
  have hno : hasE (J ++ C) e = false := by
    cases hh : hasE (J ++ C) e with
    | false => rfl
    | true =>
      obtain ⟨a, a1, a2, a3⟩ := hasE_mem.1 hh
      rcases List.mem_append.1 a1 with m | m
      · have := less_same (hJ a m) a2; omega
      · have := less_same (hle a m) a2.symm; omega
  rw [addE_new hno, insE_none (fun a ha => lessE_asym (hJ a ha))]
  cases C with
  | nil => rfl
  | cons c C =>
    have := hle c (by simp)
    show J ++ (if lessE e c then _ else _) = _
    rw [this]; rfl
theorem jn_same {J C : List Ent} {c e : Ent} (h1 : lessE e c = false) (h2 : lessE c e = false) : addE (J ++ c :: C) e = J ++ c :: C := by
  refine addE_has (hasE_mem.2 ⟨c, by simp, ?_⟩)
  refine Classical.byContradiction fun h => ?_
  rcases lessE_tot h with h | h
  · rw [h2] at h; cases h
  · rw [h1] at h; cases h
/-- c is not behind e, e is ahead of f: so is c -/
theorem le_less {c e f : Ent} (h : lessE e c = false) (h2 : lessE e f = true) : lessE c f = true := by
  by_cases hid : c.key = e.key ∧ c.seq = e.seq
  · by_cases hk : e.key = f.key
    · exact less_of (hid.1.trans hk) (by have := less_same h2 hk; omega)
    · rw [lessE_ne hk] at h2
      rw [lessE_ne (by rw [hid.1]; exact hk), hid.1]; exact h2
  · rcases lessE_tot hid with h3 | h3
    · exact lessE_trans h3 h2
    · rw [h] at h3; cases h3
structure Grp (L : List Ent) (R : List (List Ent)) : Prop where
  flat : R.flatten = L
  same : ∀ g ∈ R, ∀ a ∈ g, ∀ b ∈ g, a.key = b.key
  pw : R.Pairwise fun g k => ∀ a ∈ g, ∀ b ∈ k, a.key ≠ b.key
theorem Grp.newer {L : List Ent} {R : List (List Ent)} (G : Grp L R) {g : List Ent} (hg : g ∈ R) {e : Ent} (he : e ∈ g) (s : Int) : newer L e s = newer g e s := by
  rw [Bool.eq_iff_iff, newer_iff, newer_iff]
  constructor
  · rintro ⟨a, h1, h2, h3⟩
    rw [← G.flat, List.mem_flatten] at h1
    obtain ⟨k, hk, hak⟩ := h1
    by_cases e1 : a ∈ g
    · exact ⟨a, e1, h2, h3⟩
    · exfalso
      have hpw := G.pw
      rw [List.pairwise_iff_getElem] at hpw
      obtain ⟨i, hi, rfl⟩ := List.getElem_of_mem hg
      obtain ⟨j, hj, rfl⟩ := List.getElem_of_mem hk
      rcases Nat.lt_trichotomy i j with h | h | h
      · exact hpw i j hi hj h e he a hak h2.symm
      · subst h; exact e1 hak
      · exact hpw j i hj hi h a hak e he h2
  · rintro ⟨a, h1, h2⟩
    exact ⟨a, by rw [← G.flat, List.mem_flatten]; exact ⟨g, hg, h1⟩, h2⟩
theorem Grp.sub {L : List Ent} {R : List (List Ent)} (G : Grp L R) {g : List Ent} (hg : g ∈ R) : g.Sublist L := by rw [← G.flat]; exact List.sublist_flatten_of_mem hg
def SrtI (S : List Int) : Prop := ∀ i j, i ≤ j → j < S.length → S.getD i 0 ≤ S.getD j 0
/-- the least look that is not below: it is below the newer one -/
theorem want_look {g : List Ent} {S T : List Int} {i k : Nat} (ha : g.all isE = true) (hs : sortedE g = true) (hk : ∀ a ∈ g, ∀ b ∈ g, a.key = b.key) (hi : i < g.length) (h0 : 0 < i) (hT : SrtI T) (hm : ∀ n, n ∈ T ↔ n ∈ S ∨ n = 1000000)
    (k1 : k < T.length) (k2 : 0 < k → T.getD (k - 1) 0 < (g.getD i default).seq) (k3 : (g.getD i default).seq ≤ T.getD k 0) :
    wantP g S (g.getD i default) = decide (T.getD k 0 < (g.getD (i - 1) default).seq) := by
  have hkk := hk _ (getD_memE (i := i - 1) (by omega)) _ (getD_memE hi)
  have hq := (isE_iff.1 (List.all_eq_true.1 ha _ (getD_memE (i := i - 1) (by omega)))).1
  have memT : ∀ j, j < T.length → T.getD j 0 ∈ T := fun j hj => by rw [List.getD_eq_getElem?_getD, List.getElem?_eq_getElem hj]; simp
  rw [want_nw ha hs hi]
  have hn : nwE g i = (g.getD (i - 1) default).seq := if_pos ⟨h0, hkk⟩
  rw [hn, decide_eq_false (p := 1000000 < (g.getD (i - 1) default).seq) (by omega), Bool.false_or, Bool.eq_iff_iff, List.any_eq_true, decide_eq_true_eq]
  constructor
  · rintro ⟨n, n1, n2⟩
    rw [Bool.and_eq_true, decide_eq_true_eq, decide_eq_true_eq] at n2
    obtain ⟨j, hj, e⟩ := List.getElem_of_mem ((hm n).2 (.inl n1))
    have e : T.getD j 0 = n := by rw [List.getD_eq_getElem?_getD, List.getElem?_eq_getElem hj]; simpa using e
    have hjk : k ≤ j := by
      refine Classical.byContradiction fun hh => ?_
      have h1 := k2 (by omega)
      have h2 := hT j (k - 1) (by omega) (by omega)
      omega
    have := hT k j hjk hj
    omega
  · intro h
    rcases (hm _).1 (memT k k1) with h1 | h1
    · exact ⟨_, h1, by rw [Bool.and_eq_true, decide_eq_true_eq, decide_eq_true_eq]; exact ⟨k3, h⟩⟩
    · omega
theorem want_first {g : List Ent} {S : List Int} (ha : g.all isE = true) (hs : sortedE g = true) (hi : 0 < g.length) : wantP g S (g.getD 0 default) = true := by
  rw [want_nw ha hs hi]
  have hn : nwE g 0 = 1000001 := if_neg (by omega)
  rw [hn]; rfl
end Go.Proofs.Ytnjgoggnhdpnoaa

set_option linter.all false
namespace Go.Ev
open Go
/-- less of a block's cells -/
theorem Own.pre {h : H} {id : B} {xs ys : List V} (o : Own h id (xs ++ ys)) : Own h id xs := by
  obtain ⟨blk, h1, h2, h3, h4, h5, h6, h7⟩ := o
  refine ⟨blk, h1, h2, h3, h4, h5, h6, fun i y hy => h7 i y ?_⟩
  have hi := (List.getElem?_eq_some_iff.1 hy).1
  rw [List.getElem?_append_left hi]; exact hy
theorem Own.none {h : H} {id : B} {xs : List V} (o : Own h id xs) : Own h id [] := Own.pre (xs := []) (ys := xs) o
/-- cells stored behind those that are known -/
theorem store_end {h : H} {id : B} {xs vs : List V} {fin : Nat} (o : Own h id xs) (hj : xs.length + vs.length ≤ fin) (hfit : fin < 2 ^ 37) (h1 : allOne vs = true) : ∃ h', (∀ k, store h id 0 xs.length fin vs k = k h') ∧ Own h' id (xs ++ vs) ∧ Stay (fun i => i = id) h h' := by
  obtain ⟨blk, a1, a2, a3, a4, a5, a6, a7⟩ := o
  obtain ⟨next, floor, heap⟩ := h
  obtain ⟨cur, min, sz, cells, bel, fr⟩ := blk
  simp only at a2 a3 a4 a7
  subst a2; subst a3; subst a4
  obtain ⟨tr, t1, t2, t3⟩ := setList_fine vs xs.length cells (by omega)
  obtain ⟨hp, s1, s2, s3⟩ := setK_ok id (⟨0, 0, sz, tr, bel, 0⟩ : Blk) heap
  have e1 : B.geB floor id = true := by cases floor <;> first | rfl | (show Nat.ble _ _ = true; rw [Nat.ble_eq]; exact a5)
  have e2 : Nat.ble (Nat.add xs.length vs.length) fin = true := by rw [Nat.ble_eq]; exact hj
  have e4 : frOk 0 xs.length = true := rfl
  have e5 : Nat.beq 0 0 = true := rfl
  have e6 : Nat.ble 0 0 = true := rfl
  have a1' : heap.get id = some ⟨0, 0, sz, cells, bel, 0⟩ := a1
  refine ⟨⟨next, floor, hp⟩, fun k => ?_, ⟨_, s2, rfl, rfl, rfl, a5, a6, fun i z hz => ?_⟩, ⟨rfl, Nat.le_refl _, fun i _ hi => s3 i hi⟩⟩
  · simp only [store, hK_mk, a1', optK_some, blkK_mk, e5, e6, e1, e2, h1, e4, ifK_true]
    rw [t1, s1]
  · show tr.getN i = some z
    by_cases hi : i < xs.length
    · rw [List.getElem?_append_left hi] at hz
      rw [t3 i (by omega)]; exact a7 i z hz
    · rw [List.getElem?_append_right (by omega)] at hz
      have := t2 _ z hz
      rwa [show xs.length + (i - xs.length) = i by omega] at this
section
variable {P : Program} {h : H} {N : Nx} {id : B} {el size cnt len c : Nat} {x : V} {xs vs : List V}
/-- in place: there is room -/
theorem AP.made (o : Own h id xs) (hlen : xs.length = len * size) (hx : ∀ k : Nat → List V → Bool, newCells size x h k = k cnt vs) (hn : vs.length = cnt * size) (h1 : allOne vs = true) (hc : len + cnt ≤ c) (hfit : c * size < 2 ^ 37) (hcb : c < 18446744073709551616)
    (k : ∀ h', Own h' id (xs ++ vs) → Stay (fun i => i = id) h h' → N.go P (.l id 0 0 (len + cnt) (c * size) (some c)) h') : AP P el size (.l id 0 0 len (c * size) (some c)) x h N := by
  have hle : Nat.ble (Nat.add len cnt) c = true := by rw [Nat.ble_eq]; exact hc
  have hmul := Nat.mul_le_mul_right size hc
  rw [Nat.add_mul] at hmul
  cases cnt with
  | zero =>
    have hv : vs = [] := List.eq_nil_of_length_eq_zero (by rw [hn, Nat.zero_mul])
    subst hv
    refine hm_of (v := .l id 0 0 (len + 0) (c * size) (some c)) (h' := h) (fun q => ?_) (k h (by rw [List.append_nil]; exact o) ⟨rfl, Nat.le_refl _, fun _ _ _ => rfl⟩)
    rw [hx]
    show boolK (flagB c) _ (fun _ => boolK (Nat.ble (Nat.add len 0) c) (fun _ => appIn id 0 0 len (c * size) c size 0 [] h q) _) = _
    rw [flagB_of hcb, boolK_false, hle]; rfl
  | succ m =>
    obtain ⟨h', a1, a2, a3⟩ := store_end o (vs := vs) (fin := c * size) (by omega) hfit h1
    refine hm_of (v := .l id 0 0 (len + (m + 1)) (c * size) (some c)) (h' := h') (fun q => ?_) (k h' a2 a3)
    rw [hx]
    show boolK (flagB c) _ (fun _ => boolK (Nat.ble (Nat.add len (m + 1)) c) (fun _ => appIn id 0 0 len (c * size) c size (m + 1) vs h q) _) = _
    rw [flagB_of hcb, boolK_false, hle]
    show store h id 0 (Nat.add 0 (Nat.mul len size)) (c * size) vs (fun h => fN (Nat.add len (m + 1)) fun l' => q (.l id 0 0 l' (c * size) (some c)) h) = _
    rw [show Nat.add 0 (Nat.mul len size) = xs.length by rw [hlen]; show 0 + len * size = _; omega, a1, fN_eq]
    rfl
/-- append(S{}, s...): a new block, or the empty one -/
theorem AP.e1 {g off fin : Nat} (hx : ∀ k : Nat → List V → Bool, newCells size x h k = k cnt vs) (hf : B.val h.floor ≤ B.val h.next) (hn : vs.length = cnt * size) (hl : cnt ≤ 1048576) (hl2 : vs.length < 2 ^ 38)
    (k0 : cnt = 0 → N.go P (.l id g off 0 fin (some 0)) h)
    (k : ∀ h', 1 ≤ cnt → Stay nowhere h h' → B.val h'.next = B.val h.next + 1 → Buf h' el size (.l h.next 0 0 cnt vs.length none) vs → Top h' (.l h.next 0 0 cnt vs.length none) → N.go P (.l h.next 0 0 cnt vs.length none) h') : AP P el size (.l id g off 0 fin (some 0)) x h N := by
  cases cnt with
  | zero =>
    have hv : vs = [] := List.eq_nil_of_length_eq_zero (by rw [hn, Nat.zero_mul])
    subst hv
    exact hm_of (v := .l id g off 0 fin (some 0)) (h' := h) (fun q => by rw [hx]; rfl) (k0 rfl)
  | succ m =>
  obtain ⟨h', a1, a2, a3, blk, b1, b2, b3, b4, b5, b6, b7⟩ := alloc_new el vs h hl2
  have hble : Nat.ble (Nat.add 0 (m + 1)) 1048576 = true := by rw [Nat.ble_eq]; show 0 + (m + 1) ≤ _; omega
  have hno : Nat.ble (Nat.add 0 (m + 1)) 0 = false := by
    cases hx : Nat.ble (Nat.add 0 (m + 1)) 0 with
    | false => rfl
    | true => have := Nat.le_of_ble_eq_true hx; have h2 : 0 + (m + 1) ≤ 0 := this; omega
  refine hm_of (v := .l h.next 0 0 (m + 1) vs.length none) (h' := h') (fun q => ?_) (k h' (by omega) a2 a3 (.inr ⟨h.next, 0, m + 1, blk, rfl, by omega, hn, by rw [a2.floor]; exact hf, by omega, b1, ⟨by omega, by omega⟩, b4, b5, b6, b7⟩) ?_)
  · rw [hx]
    show boolK (flagB 0) (fun _ => appGrow (selB (Nat.ble 1 0) (Nat.beq size 1)) el id g off 0 fin size (m + 1) vs h q) (fun _ => boolK (Nat.ble (Nat.add 0 (m + 1)) 0) (fun _ => appIn id g off 0 fin 0 size (m + 1) vs h q) fun _ => appOut el id g off 0 fin size (m + 1) vs h q) = _
    rw [flagB_of (by omega), boolK_false, hno, boolK_false]
    unfold appOut
    rw [hble, ifK_true]
    show alloc el (app [] vs) h (fun id h => fN (Nat.add 0 (m + 1)) fun l' => fN (Nat.mul l' size) fun fin' => q (.l id 0 0 l' fin' none) h) = _
    rw [app_eq, List.nil_append, a1, fN_eq, fN_eq]
    show q (.l h.next 0 0 (0 + (m + 1)) ((0 + (m + 1)) * size) none) h' = _
    rw [Nat.zero_add, ← hn]
  · intro id' g off n fin cap e
    cases e
    exact ⟨blk, b1, b3⟩
end
end Go.Ev

set_option maxRecDepth 100000
set_option maxHeartbeats 8000000
set_option linter.all false
namespace Go.Proofs.Ytnjgoggnhdpnoaa
open Go Go.Ev
theorem cnan_ok {h : H} {x : Int} : FnOk Try.prog 59 [.i .i64 x] h fun y h' => y = .b false ∧ h' = h := by
  refine fn_go c59 (by intro hb; cases hb) (by simp) (by simp) fun Q hQ => ?_
  simp only [slotsF, Nat.reduceAdd]
  repeat' (first
    | refine St.h ?_
    | simp (disch := first | omega | (simp only [lnv]; omega)) only [wlk, ↓get_put', ↓reduceIte, seval]
    | (with_reducible (first | apply cd_split | apply gd_split)) <;> (intro hc; (try simp only [hcn] at hc); (try simp only [hc]); (try simp only [hcl] at hc); try omega))
  subst hQ
  exact ⟨rfl, rfl⟩
theorem snan_ok {h : H} {x : Int} : FnOk Try.prog 53 [.i .i64 x] h fun y h' => y = .b false ∧ h' = h := by
  refine fn_go c53 (by intro hb; cases hb) (by simp) (by simp) fun Q hQ => ?_
  simp only [slotsF, Nat.reduceAdd]
  repeat' (first
    | refine St.h ?_
    | simp (disch := first | omega | (simp only [lnv]; omega)) only [wlk, ↓get_put', ↓reduceIte, seval]
    | (with_reducible (first | apply cd_split | apply gd_split)) <;> (intro hc; (try simp only [hcn] at hc); (try simp only [hc]); (try simp only [hcl] at hc); try omega))
  subst hQ
  exact ⟨rfl, rfl⟩
theorem cless_ok {h : H} {a b : Int} : FnOk Try.prog 48 [.i .i64 a, .i .i64 b] h fun y h' => y = .b (decide (a < b)) ∧ h' = h := by
  refine fn_go c48 (by intro hb; cases hb) (by simp) (by simp) fun Q hQ => ?_
  simp only [slotsF, Nat.reduceAdd]
  repeat' (first
    | refine St.h ?_
    | simp (disch := first | omega | (simp only [lnv]; omega)) only [wlk, ↓get_put', ↓reduceIte, seval]
    | (with_reducible (first | apply cd_split | apply gd_split)) <;> (intro hc; (try simp only [hcn] at hc); (try simp only [hc]); (try simp only [hcl] at hc); try omega))
  refine CL.pure cnan_ok ?_
  repeat' (first
    | refine St.h ?_
    | simp (disch := first | omega | (simp only [lnv]; omega)) only [wlk, ↓get_put', ↓reduceIte, seval]
    | (with_reducible (first | apply cd_split | apply gd_split)) <;> (intro hc; (try simp only [hcn] at hc); (try simp only [hc]); (try simp only [hcl] at hc); try omega))
  all_goals
    subst hQ
    refine ⟨?_, rfl⟩
    first | rfl | (congr 1; first | exact (decide_eq_true (by omega)).symm | exact (decide_eq_false (by omega)).symm)
/-- a row of ints that is written in place -/
def rI (f : Nat → Int) (n : Nat) : List V := (List.range n).map fun j => .i .i64 (f j)
theorem rI_len {f : Nat → Int} {n : Nat} : (rI f n).length = n := by simp [rI]
theorem rI_getD {f : Nat → Int} {n i : Nat} (hi : i < n) : (rI f n).getD i .u = .i .i64 (f i) := by simp [rI, List.getD, hi]
theorem rI_of (xs : List Int) : xs.map (V.i .i64) = rI (fun j => xs.getD j 0) xs.length := by
  refine List.ext_getElem (by simp [rI]) fun i h1 h2 => ?_
  have : i < xs.length := by simpa using h1
  simp [rI, List.getD, this]
section
variable {P : Program} {h h0 : H} {N : Nx} {v : V} {f : Nat → Int} {n i : Nat}
theorem rI_ln (a : Lst h0 v (rI f n)) : H1 P gLen v h N = N.go P (.i .i64 (n : Int)) h := by rw [Lst.ln a, rI_len]
theorem rI_ix (a : Lst h0 v (rI f n)) (hi : i < n) : IX P 1 v i h N = N.go P (.p (lid v) (lg v) (loff v + i) (lfin v)) h := Lst.ix a (by rw [rI_len]; exact hi)
theorem rI_ld (a : Lst h v (rI f n)) (hi : i < n) : L1 P (lid v) (lg v) (loff v + i) (lfin v) h N = N.go P (.i .i64 (f i)) h := by
  rw [Lst.ld a (by rw [rI_len]; exact hi), rI_getD hi]
end
theorem bsearch_ok {h : H} {v : V} {xs : List Int} {x : Int} (hL : Lst h v (xs.map (V.i .i64))) (hl : xs.length ≤ 1000) : FnOk Try.prog 40 [v, .i .i64 x] h fun y h' =>
    ∃ (k : Nat) (b : Bool), y = .tu [.i .i64 (k : Int), .b b] ∧ k ≤ xs.length ∧ (0 < k → xs.getD (k - 1) 0 < x) ∧ (k < xs.length → x ≤ xs.getD k 0) ∧ h' = h := by
  have hL : Lst h v (rI (fun j => xs.getD j 0) xs.length) := by rw [← rI_of]; exact hL
  refine fn_go c40 (by intro hb; cases hb) (by simp) (by simp) fun Q hQ => ?_
  simp only [slotsF, Nat.reduceAdd]
  repeat' (first
    | refine St.h ?_
    | simp (disch := first | omega | (simp only [lnv]; omega)) only [wlk, ↓get_put', ↓reduceIte, seval, rI_ln hL]
    | (with_reducible (first | apply cd_split | apply gd_split)) <;> (intro hc; (try simp only [hcn] at hc); (try simp only [hc]); (try simp only [hcl] at hc); try omega))
  refine Ok.lp (fun m t g => ∃ i j : Nat, m = j - i ∧ i ≤ j ∧ j ≤ xs.length ∧ h = g ∧ (0 < i → xs.getD (i - 1) 0 < x) ∧ (j < xs.length → x ≤ xs.getD j 0) ∧ get 0 t = v ∧ get 1 t = .i .i64 x ∧ get 6 t = .i .i64 (xs.length : Int) ∧ get 7 t = .i .i64 (i : Int) ∧ get 8 t = .i .i64 (j : Int)) xs.length ?_ ?_
  · simp (disch := first | omega | (simp only [lnv]; omega)) only [wlk, ↓get_put', ↓reduceIte, seval]
    refine ⟨0, xs.length, by omega, by omega, by omega, trivial, fun h => by omega, fun h => by omega, ?_, ?_, ?_, ?_, ?_⟩ <;> first | trivial | rfl
  rintro I hI m t g ⟨i, j, rfl, hij, hjn, rfl, h1, h2, f0, f1, f6, f7, f8⟩
  by_cases hlt : i < j
  case neg =>
    obtain rfl : i = j := by omega
    by_cases hin : i < xs.length
    case neg =>
      repeat' (first
        | refine St.h ?_
        | simp (disch := first | omega | (simp only [lnv]; omega)) only [wlk, ↓get_put', ↓reduceIte, seval, f0, f1, f6, f7, f8]
        | (with_reducible (first | apply cd_split | apply gd_split)) <;> (intro hc; (try simp only [hcn] at hc); (try simp only [hc]); (try simp only [hcl] at hc); try omega))
      subst hQ
      exact ⟨i, _, rfl, hjn, h1, h2, rfl⟩
    by_cases hxx : xs.getD i 0 = x
    case pos =>
      have d1 : (xs.getD i 0 = x) = True := eq_true hxx
      repeat' (first
        | refine St.h ?_
        | simp (disch := first | omega | (simp only [lnv]; omega)) only [wlk, ↓get_put', ↓reduceIte, seval, f0, f1, f6, f7, f8, rI_ix hL, rI_ld hL, d1, Int.toNat_natCast]
        | (with_reducible (first | apply cd_split | apply gd_split)) <;> (intro hc; (try simp only [hcn] at hc); (try simp only [hc]); (try simp only [hcl] at hc); try omega))
      subst hQ
      exact ⟨i, _, rfl, hjn, h1, h2, rfl⟩
    have d1 : (xs.getD i 0 = x) = False := eq_false hxx
    repeat' (first
      | refine St.h ?_
      | simp (disch := first | omega | (simp only [lnv]; omega)) only [wlk, ↓get_put', ↓reduceIte, seval, f0, f1, f6, f7, f8, rI_ix hL, rI_ld hL, d1, Int.toNat_natCast]
      | (with_reducible (first | apply cd_split | apply gd_split)) <;> (intro hc; (try simp only [hcn] at hc); (try simp only [hc]); (try simp only [hcl] at hc); try omega))
    refine CL.pure snan_ok ?_
    repeat' (first
      | refine St.h ?_
      | simp (disch := first | omega | (simp only [lnv]; omega)) only [wlk, ↓get_put', ↓reduceIte, seval, f0, f1, f6, f7, f8]
      | (with_reducible (first | apply cd_split | apply gd_split)) <;> (intro hc; (try simp only [hcn] at hc); (try simp only [hc]); (try simp only [hcl] at hc); try omega))
    subst hQ
    exact ⟨i, _, rfl, hjn, h1, h2, rfl⟩
  have hm : ((i : Int) + (j : Int)).toNat / 2 = (i + j) / 2 := by omega
  have hm2 : ((i : Int) + (j : Int)) / 2 = (((i + j) / 2 : Nat) : Int) := by omega
  repeat' (first
    | refine St.h ?_
    | simp (disch := first | omega | (simp only [lnv]; omega)) only [wlk, ↓get_put', ↓reduceIte, seval, f0, f1, f6, f7, f8, hm, hm2, rI_ix hL, rI_ld hL, Int.toNat_natCast]
    | (with_reducible (first | apply cd_split | apply gd_split)) <;> (intro hc; (try simp only [hcn] at hc); (try simp only [hc]); (try simp only [hcl] at hc); try omega))
  refine CL.pure cless_ok ?_
  by_cases hb : xs.getD ((i + j) / 2) 0 < x
  case neg =>
    rw [decide_eq_false hb]
    repeat' (first
      | refine St.h ?_
      | simp (disch := first | omega | (simp only [lnv]; omega)) only [wlk, ↓get_put', ↓reduceIte, seval, f0, f1, f6, f7, f8]
      | (with_reducible (first | apply cd_split | apply gd_split)) <;> (intro hc; (try simp only [hcn] at hc); (try simp only [hc]); (try simp only [hcl] at hc); try omega))
    refine lp_next hI ((i + j) / 2 - i) (by omega) ⟨i, (i + j) / 2, rfl, by omega, by omega, rfl, h1, fun _ => by omega, by simp (disch := first | omega | (simp only [lnv]; omega)) only [wlk, ↓get_put', ↓reduceIte, seval, f0], by simp (disch := first | omega | (simp only [lnv]; omega)) only [wlk, ↓get_put', ↓reduceIte, seval, f1], by simp (disch := first | omega | (simp only [lnv]; omega)) only [wlk, ↓get_put', ↓reduceIte, seval, f6], by simp (disch := first | omega | (simp only [lnv]; omega)) only [wlk, ↓get_put', ↓reduceIte, seval, f7], by simp (disch := first | omega | (simp only [lnv]; omega)) only [wlk, ↓get_put', ↓reduceIte, seval]⟩
  case pos =>
    rw [decide_eq_true hb]
    repeat' (first
      | refine St.h ?_
      | simp (disch := first | omega | (simp only [lnv]; omega)) only [wlk, ↓get_put', ↓reduceIte, seval, f0, f1, f6, f7, f8]
      | (with_reducible (first | apply cd_split | apply gd_split)) <;> (intro hc; (try simp only [hcn] at hc); (try simp only [hc]); (try simp only [hcl] at hc); try omega))
    refine lp_next hI (j - ((i + j) / 2 + 1)) (by omega) ⟨(i + j) / 2 + 1, j, rfl, by omega, by omega, rfl, fun _ => by rw [Nat.add_sub_cancel]; exact hb, h2, by simp (disch := first | omega | (simp only [lnv]; omega)) only [wlk, ↓get_put', ↓reduceIte, seval, f0], by simp (disch := first | omega | (simp only [lnv]; omega)) only [wlk, ↓get_put', ↓reduceIte, seval, f1], by simp (disch := first | omega | (simp only [lnv]; omega)) only [wlk, ↓get_put', ↓reduceIte, seval, f6], by simp (disch := first | omega | (simp only [lnv]; omega)) only [wlk, ↓get_put', ↓reduceIte, seval]; rfl, by simp (disch := first | omega | (simp only [lnv]; omega)) only [wlk, ↓get_put', ↓reduceIte, seval, f8]⟩
end Go.Proofs.Ytnjgoggnhdpnoaa

set_option maxRecDepth 100000
set_option maxHeartbeats 8000000
set_option linter.all false
namespace Go.Proofs.Ytnjgoggnhdpnoaa
open Go Go.Ev
theorem cloneE0_ok {h : H} : FnOk Try.prog 34 [.l0] h fun y h' => y = .l0 ∧ h' = h := by
  refine fn_go c34 (by intro hb; cases hb) (by simp) (by simp) fun Q hQ => ?_
  simp only [slotsF, Nat.reduceAdd]
  repeat' (first
    | refine St.h ?_
    | simp (disch := first | omega | (simp only [lnv]; omega)) only [wlk, ↓get_put', ↓reduceIte, seval]
    | (with_reducible (first | apply cd_split | apply gd_split)) <;> (intro hc; (try simp only [hcn] at hc); (try simp only [hc]); (try simp only [hcl] at hc); try omega))
  subst hQ
  exact ⟨rfl, rfl⟩
theorem cloneE1_ok {h : H} {id : B} {gg off len fin : Nat} {cap : Option Nat} {L : List Ent} (hL : Es h (.l id gg off len fin cap) L) (hl : L.length ≤ 100000) (hf : B.val h.floor ≤ B.val h.next) : FnOk Try.prog 34 [.l id gg off len fin cap] h fun y h' => Es h' y L ∧ SwN 4 y ∧ Stay nowhere h h' := by
  refine fn_go c34 (by intro hb; cases hb) (by simp) (by simp) fun Q hQ => ?_
  simp only [slotsF, Nat.reduceAdd]
  repeat' (first
    | refine St.h ?_
    | simp (disch := first | omega | (simp only [lnv]; omega)) only [wlk, ↓get_put', ↓reduceIte, seval]
    | (with_reducible (first | apply cd_split | apply gd_split)) <;> (intro hc; (try simp only [hcn] at hc); (try simp only [hc]); (try simp only [hcl] at hc); try omega))
  refine AL.own (by simp) hf fun h1 s1 n1 o1 => ?_
  have hf1 := s1.fl hf
  repeat' (first
    | refine St.h ?_
    | simp (disch := first | omega | (simp only [lnv]; omega)) only [wlk, ↓get_put', ↓reduceIte, seval]
    | (with_reducible (first | apply cd_split | apply gd_split)) <;> (intro hc; (try simp only [hcn] at hc); (try simp only [hc]); (try simp only [hcl] at hc); try omega))
  refine AP.e1 (new_ss (hL.grow s1) entC_len (by omega)) hf1 (fm_len entC_len L) (by omega) (by rw [fm_len entC_len L]; omega) (fun e => ?_) fun h2 e s2 n2 b2 tp2 => ?_
  · have : L = [] := List.eq_nil_of_length_eq_zero e
    subst this
    repeat' (first
      | refine St.h ?_
      | simp (disch := first | omega | (simp only [lnv]; omega)) only [wlk, ↓get_put', ↓reduceIte, seval]
      | (with_reducible (first | apply cd_split | apply gd_split)) <;> (intro hc; (try simp only [hcn] at hc); (try simp only [hc]); (try simp only [hcl] at hc); try omega))
    subst hQ
    exact ⟨Ss.lit o1 rfl entC_len rfl (by simp), .inr ⟨_, _, _, _, _, _, rfl, by simp⟩, s1⟩
  · repeat' (first
      | refine St.h ?_
      | simp (disch := first | omega | (simp only [lnv]; omega)) only [wlk, ↓get_put', ↓reduceIte, seval]
      | (with_reducible (first | apply cd_split | apply gd_split)) <;> (intro hc; (try simp only [hcn] at hc); (try simp only [hc]); (try simp only [hcl] at hc); try omega))
    subst hQ
    exact ⟨Ss.buf b2 rfl entC_len (by omega), swn_bufE b2, s1.trans s2⟩
theorem cloneE_ok {h : H} {v : V} {L : List Ent} (hL : Es h v L) (hl : L.length ≤ 100000) (hf : B.val h.floor ≤ B.val h.next) : FnOk Try.prog 34 [v] h fun y h' => Es h' y L ∧ SwN 4 y ∧ Stay nowhere h h' := by
  have hL0 := hL
  rcases hL with ⟨rfl, rfl⟩ | ⟨id, gg, off, fin, cap, rfl, hh⟩
  · exact cloneE0_ok.mono fun y h' ⟨a, b⟩ => by rw [a, b]; exact ⟨Ss.nil, .inl rfl, Stay.refl _ _⟩
  · exact cloneE1_ok hL0 hl hf
end Go.Proofs.Ytnjgoggnhdpnoaa

set_option maxRecDepth 100000
set_option maxHeartbeats 8000000
set_option linter.all false
namespace Go.Proofs.Ytnjgoggnhdpnoaa
open Go Go.Ev
theorem seenBy_ok {h : H} {v u : V} {G : List Ent} {S T : List Int} (hL : Es h v G) (hT : Lst h u (T.map (V.i .i64))) (srt : SrtI T) (hm : ∀ n, n ∈ T ↔ n ∈ S ∨ n = 1000000) (ha : G.all isE = true) (hs : sortedE G = true) (hk : ∀ a ∈ G, ∀ b ∈ G, a.key = b.key) (hl : G.length ≤ 5000) (hTl : T.length ≤ 1000) (hf : B.val h.floor ≤ B.val h.next) : FnOk Try.prog 29 [v, u] h fun y h' =>
    Es h' y (G.filter (wantP G S)) ∧ SwN 4 y ∧ Stay nowhere h h' := by
  refine fn_go c29 (by intro hb; cases hb) (by simp) (by simp) fun Q hQ => ?_
  simp only [slotsF, Nat.reduceAdd]
  repeat' (first
    | refine St.h ?_
    | simp (disch := first | omega | (simp only [lnv]; omega)) only [wlk, ↓get_put', ↓reduceIte, seval, hL.ln]
    | (with_reducible (first | apply cd_split | apply gd_split)) <;> (intro hc; (try simp only [hcn] at hc); (try simp only [hc]); (try simp only [hcl] at hc); try omega))
  refine Ok.lp (fun m t g => ∃ (i : Nat) (w : V), m = G.length - i ∧ i ≤ G.length ∧ get 0 t = v ∧ get 1 t = u ∧ get 5 t = w ∧ get 10 t = v ∧ get 11 t = .i .i64 (G.length : Int) ∧ get 12 t = .i .i64 (i : Int) ∧ Stay nowhere h g ∧ Buf g 39 4 w (((G.take i).filter (wantP G S)).flatMap entC) ∧ (∀ q, isOf w q → B.val h.next ≤ B.val q)) G.length ?_ ?_
  · simp (disch := first | omega | (simp only [lnv]; omega)) only [wlk, ↓get_put', ↓reduceIte, seval]
    refine ⟨0, .l0, by omega, by omega, ?_⟩
    refine ⟨?_, ?_, ?_, ?_, ?_, ?_, Stay.refl _ _, Buf.nil _ _ _, ?_⟩
    rotate_right
    · rintro i ⟨_, _, _, _, _, e⟩; cases e
    all_goals first | trivial | rfl
  rintro I hI m t g ⟨i, w, rfl, hi, f0, f1, f5, f10, f11, f12, st, bf, own⟩
  have hfg := st.fl hf
  have hLg := hL.grow st
  by_cases hil : i < G.length
  case neg =>
    obtain rfl : i = G.length := by omega
    rw [List.take_length] at bf
    repeat' (first
      | refine St.h ?_
      | simp (disch := first | omega | (simp only [lnv]; omega)) only [wlk, ↓get_put', ↓reduceIte, seval, f0, f1, f5, f10, f11, f12]
      | (with_reducible (first | apply cd_split | apply gd_split)) <;> (intro hc; (try simp only [hcn] at hc); (try simp only [hc]); (try simp only [hcl] at hc); try omega))
    subst hQ
    exact ⟨Ss.buf bf rfl entC_len (by omega), swn_bufE bf, st⟩
  have htf := filter_takeE (q := wantP G S) hil
  have hisE := isE_iff.1 (List.all_eq_true.1 ha _ (getD_memE hil))
  have hfl : ((G.take i).filter (wantP G S)).length ≤ G.length := by
    have h1 := List.length_filter_le (wantP G S) (G.take i)
    have h2 : (G.take i).length ≤ G.length := by rw [List.length_take]; omega
    omega
  have hfm := fm_len entC_len ((G.take i).filter (wantP G S))
  repeat' (first
    | refine St.h ?_
    | simp (disch := first | omega | (simp only [lnv]; omega)) only [wlk, ↓get_put', ↓reduceIte, seval, f0, f1, f5, f10, f11, f12, hL.ix, hLg.la, Int.toNat_natCast]
    | (with_reducible (first | apply cd_split | apply gd_split)) <;> (intro hc; (try simp only [hcn] at hc); (try simp only [hc]); (try simp only [hcl] at hc); try omega))
  refine AL.own (by simp) hfg fun g1 t1 _ o1 => ?_
  have hfg1 := t1.fl hfg
  repeat' (first
    | refine St.h ?_
    | simp (disch := first | omega | (simp only [lnv]; omega)) only [wlk, ↓get_put', ↓reduceIte, seval, f0, f1, f5, f10, f11, f12, hL.ix, hLg.la, Int.toNat_natCast]
    | (with_reducible (first | apply cd_split | apply gd_split)) <;> (intro hc; (try simp only [hcn] at hc); (try simp only [hc]); (try simp only [hcl] at hc); try omega))
  refine ST.all o1 rfl rfl (by simp) (by simp) fun g2 o2 t2 => ?_
  have t12 : Stay nowhere g g2 := t1.past' t2 fun q hq => by rw [hq]; exact Nat.le_refl _
  have st2 := st.trans t12
  have hfg2 := t12.fl hfg
  have bf2 := bf.grow t12
  have hL2 := hL.grow st2
  have hT2 : Lst g2 u (T.map (V.i .i64)) := hT.grow st2
  have hTr : Lst g2 u (rI (fun j => T.getD j 0) T.length) := by rw [← rI_of]; exact hT2
  repeat' (first
    | refine St.h ?_
    | simp (disch := first | omega | (simp only [lnv]; omega)) only [wlk, ↓get_put', ↓reduceIte, seval, f0, f1, f5, f10, f11, f12, o2.row.l1]
    | (with_reducible (first | apply cd_split | apply gd_split)) <;> (intro hc; (try simp only [hcn] at hc); (try simp only [hc]); (try simp only [hcl] at hc); try omega))
  refine CL.mk (bsearch_ok (x := (G.getD i default).seq) hT2 hTl) ?_
  rintro _ _ ⟨k, bb, rfl, k1, k2, k3, rfl⟩
  have hkl : k < T.length := by
    refine Classical.byContradiction fun hh => ?_
    obtain rfl : k = T.length := by omega
    obtain ⟨j, hj, e⟩ := List.getElem_of_mem ((hm 1000000).2 (.inr rfl))
    have e : T.getD j 0 = 1000000 := by rw [List.getD_eq_getElem?_getD, List.getElem?_eq_getElem hj]; simpa using e
    have h1 := k2 (by omega)
    have h2 := srt j (T.length - 1) (by omega) (by omega)
    omega
  have k3 := k3 hkl
  have w1 : ((i : Int) - 1).toNat = i - 1 := by omega
  have hcs : (((i : Int) = 0) = True ∧ i = 0 ∧ (2 = 3) = False ∧ wantP G S (G.getD i default) = true) ∨ (((i : Int) = 0) = False ∧ 0 < i ∧ (T.getD k 0 < (G.getD (i - 1) default).seq) = True ∧ wantP G S (G.getD i default) = true) ∨ (((i : Int) = 0) = False ∧ 0 < i ∧ (T.getD k 0 < (G.getD (i - 1) default).seq) = False ∧ wantP G S (G.getD i default) = false) := by
    by_cases c : i = 0
    · exact .inl ⟨eq_true (by omega), c, eq_false (by decide), by subst c; exact want_first ha hs hil⟩
    · refine .inr ?_
      have c1 : ((i : Int) = 0) = False := eq_false (by omega)
      have hw := want_look ha hs hk hil (by omega) srt hm hkl k2 k3
      by_cases c2 : T.getD k 0 < (G.getD (i - 1) default).seq
      · exact .inl ⟨c1, by omega, eq_true c2, by rw [hw]; exact decide_eq_true c2⟩
      · exact .inr ⟨c1, by omega, eq_false c2, by rw [hw]; exact decide_eq_false c2⟩
  rw [← or_assoc] at hcs
  rcases hcs with hcs | ⟨d1, d2, d3, d4⟩
  case inr =>
    rw [d4] at htf
    have htf : (G.take (i + 1)).filter (wantP G S) = (G.take i).filter (wantP G S) := by rw [htf]; simp
    repeat' (first
      | refine St.h ?_
      | simp (disch := first | omega | (simp only [lnv]; omega)) only [wlk, ↓get_put', ↓reduceIte, seval, f0, f1, f5, f10, f11, f12, d1, d3, rI_ix hTr, rI_ld hTr, hL2.ix, hL2.l1, w1, Int.toNat_natCast]
      | (with_reducible (first | apply cd_split | apply gd_split)) <;> (intro hc; (try simp only [hcn] at hc); (try simp only [hc]); (try simp only [hcl] at hc); try omega))
    exact lp_next hI (G.length - (i + 1)) (by omega) ⟨i + 1, w, rfl, by omega, by simp (disch := first | omega | (simp only [lnv]; omega)) only [wlk, ↓get_put', ↓reduceIte, seval, f0], by simp (disch := first | omega | (simp only [lnv]; omega)) only [wlk, ↓get_put', ↓reduceIte, seval, f1], by simp (disch := first | omega | (simp only [lnv]; omega)) only [wlk, ↓get_put', ↓reduceIte, seval, f5], by simp (disch := first | omega | (simp only [lnv]; omega)) only [wlk, ↓get_put', ↓reduceIte, seval, f10], by simp (disch := first | omega | (simp only [lnv]; omega)) only [wlk, ↓get_put', ↓reduceIte, seval, f11], by simp (disch := first | omega | (simp only [lnv]; omega)) only [wlk, ↓get_put', ↓reduceIte, seval, f12]; rfl, st2, by rw [htf]; exact bf2, own⟩
  have d4 : wantP G S (G.getD i default) = true := by
    rcases hcs with ⟨_, _, _, d⟩ | ⟨_, _, _, d⟩ <;> exact d
  rw [d4, if_pos rfl] at htf
  rcases hcs with ⟨d1, d2, d3, _⟩ | ⟨d1, d2, d3, _⟩
  all_goals
    repeat' (first
      | refine St.h ?_
      | simp (disch := first | omega | (simp only [lnv]; omega)) only [wlk, ↓get_put', ↓reduceIte, seval, f0, f1, f5, f10, f11, f12, d1, d3, rI_ix hTr, rI_ld hTr, hL2.ix, hL2.l1, o2.row.ln, w1, Int.toNat_natCast]
      | (with_reducible (first | apply cd_split | apply gd_split)) <;> (intro hc; (try simp only [hcn] at hc); (try simp only [hc]); (try simp only [hcl] at hc); try omega))
    refine AL.own (by simp) hfg2 fun g4 t4 _ o4 => ?_
    have hfg4 := t4.fl hfg2
    have bf4 := bf2.grow t4
    repeat' (first
      | refine St.h ?_
      | simp (disch := first | omega | (simp only [lnv]; omega)) only [wlk, ↓get_put', ↓reduceIte, seval, f0, f1, f5, f10, f11, f12]
      | (with_reducible (first | apply cd_split | apply gd_split)) <;> (intro hc; (try simp only [hcn] at hc); (try simp only [hc]); (try simp only [hcl] at hc); try omega))
    refine AP.buf (vs := entC (G.getD i default)) (cnt := 1) bf4 (new_row o4.row rfl (Nat.le_refl _) (by omega) (by show 4 ≤ 4; omega)) hfg4 (by omega) rfl rfl (by rw [hfm, entC_len]; omega) fun u' g5 b5 t5 ho tp => ?_
    have s5 : Stay nowhere h g5 := (st2.trans t4).past' t5 fun q hq => own q hq
    repeat' (first
      | refine St.h ?_
      | simp (disch := first | omega | (simp only [lnv]; omega)) only [wlk, ↓get_put', ↓reduceIte, seval, f0, f1, f5, f10, f11, f12]
      | (with_reducible (first | apply cd_split | apply gd_split)) <;> (intro hc; (try simp only [hcn] at hc); (try simp only [hc]); (try simp only [hcl] at hc); try omega))
    refine lp_next hI (G.length - (i + 1)) (by omega) ⟨i + 1, u', rfl, by omega, by simp (disch := first | omega | (simp only [lnv]; omega)) only [wlk, ↓get_put', ↓reduceIte, seval, f0], by simp (disch := first | omega | (simp only [lnv]; omega)) only [wlk, ↓get_put', ↓reduceIte, seval, f1], by simp (disch := first | omega | (simp only [lnv]; omega)) only [wlk, ↓get_put', ↓reduceIte, seval], by simp (disch := first | omega | (simp only [lnv]; omega)) only [wlk, ↓get_put', ↓reduceIte, seval, f10], by simp (disch := first | omega | (simp only [lnv]; omega)) only [wlk, ↓get_put', ↓reduceIte, seval, f11], by simp (disch := first | omega | (simp only [lnv]; omega)) only [wlk, ↓get_put', ↓reduceIte, seval, f12]; rfl, s5, by rw [htf, List.flatMap_append]; simpa using b5, fun q hq => ?_⟩
    rcases ho q hq with h1 | h1
    · exact own q h1
    · have := st2.next; have := t4.next; omega
/-- the first one of what is left -/
theorem la_zero {h : H} {w : V} {A : List Ent} {k : Nat} (hw : Es h w (A.drop k)) (hk : k < A.length) (N : Nx) : LN Try.prog (lid w) (lg w) (loff w) (lfin w) 4 h N = N.go Try.prog (.a [sv (A.getD k default).key, .i .i64 (A.getD k default).seq, .b (A.getD k default).del, sv (A.getD k default).val]) h := by
  have := hw.la (P := Try.prog) (N := N) (i := 0) (by rw [List.length_drop]; omega)
  rw [Nat.zero_mul, Nat.add_zero, show (A.drop k).getD 0 default = A.getD k default by simp [List.getD]] at this
  exact this
/-- two rows joined -/
theorem joinTwo_ok {h : H} {v u : V} {A C : List Ent} (hA : Es h v A) (hC : Es h u C) (hwA : SwN 4 v) (sA : sortedE A = true) (sC : sortedE C = true) (hl : A.length + C.length ≤ 10000) (hf : B.val h.floor ≤ B.val h.next) : FnOk Try.prog 35 [v, u] h fun y h' =>
    Es h' y (addsE A C) ∧ SwN 4 y ∧ Stay nowhere h h' := by
  have e0 : ((A.length : Int) + (C.length : Int)).toNat = A.length + C.length := by omega
  refine fn_go c35 (by intro hb; cases hb) (by simp) (by simp) fun Q hQ => ?_
  simp only [slotsF, Nat.reduceAdd]
  repeat' (first
    | refine St.h ?_
    | simp (disch := first | omega | (simp only [lnv]; omega)) only [wlk, ↓get_put', ↓reduceIte, seval, hA.ln, hC.ln, e0]
    | (with_reducible (first | apply cd_split | apply gd_split)) <;> (intro hc; (try simp only [hcn] at hc); (try simp only [hc]); (try simp only [hcl] at hc); try omega))
  refine AL.own (by rw [repL_len]; simp; omega) hf fun h1 s1 n1 o1 => ?_
  have hf1 := s1.fl hf
  have o1 := o1.none
  repeat' (first
    | refine St.h ?_
    | simp (disch := first | omega | (simp only [lnv]; omega)) only [wlk, ↓get_put', ↓reduceIte, seval, hC.ln]
    | (with_reducible (first | apply cd_split | apply gd_split)) <;> (intro hc; (try simp only [hcn] at hc); (try simp only [hc]); (try simp only [hcl] at hc); try omega))
  refine Ok.lp (fun m t g => ∃ (i k : Nat) (w : V) (J : List Ent), m = C.length - i ∧ i ≤ C.length ∧ k ≤ A.length ∧ J.length ≤ k + i ∧ get 0 t = w ∧ get 5 t = .l h.next 0 0 J.length ((A.length + C.length) * 4) (some (A.length + C.length)) ∧ get 15 t = u ∧ get 16 t = .i .i64 (C.length : Int) ∧ get 17 t = .i .i64 (i : Int) ∧ Stay nowhere h g ∧ Ev.Own g h.next (J.flatMap entC) ∧ Es h w (A.drop k) ∧ SwN 4 w ∧ J ++ A.drop k = addsE A (C.take i) ∧ (i < C.length → ∀ a ∈ J, lessE a (C.getD i default) = true)) C.length ?_ ?_
  · simp (disch := first | omega | (simp only [lnv]; omega)) only [wlk, ↓get_put', ↓reduceIte, seval]
    refine ⟨0, 0, v, [], by omega, by omega, by omega, by simp, ?_⟩
    refine ⟨?_, ?_, ?_, ?_, ?_, s1, o1, hA, hwA, rfl, fun _ a ha => by cases ha⟩
    all_goals first | trivial | rfl
  rintro I hI m t g ⟨i, k, w, J, rfl, hi, hk, hJ, f0, f5, f15, f16, f17, st, og, hw, sw, hadd, hless⟩
  have hfg := st.fl hf
  have hCg := hC.grow st
  have hwg := hw.grow st
  have hdl : (A.drop k).length = A.length - k := List.length_drop
  have hJm := fm_len entC_len J
  by_cases hil : i < C.length
  case neg =>
    obtain rfl : i = C.length := by omega
    rw [List.take_length] at hadd
    repeat' (first
      | refine St.h ?_
      | simp (disch := first | omega | (simp only [lnv]; omega)) only [wlk, ↓get_put', ↓reduceIte, seval, f0, f5, f15, f16, f17]
      | (with_reducible (first | apply cd_split | apply gd_split)) <;> (intro hc; (try simp only [hcn] at hc); (try simp only [hc]); (try simp only [hcl] at hc); try omega))
    refine AP.made (xs := J.flatMap entC) og hJm (new_ss hwg entC_len (by omega)) (fm_len entC_len _) (allOne_entM _) (by omega) (by omega) (by omega) fun g2 o2 t2 => ?_
    repeat' (first
      | refine St.h ?_
      | simp (disch := first | omega | (simp only [lnv]; omega)) only [wlk, ↓get_put', ↓reduceIte, seval]
      | (with_reducible (first | apply cd_split | apply gd_split)) <;> (intro hc; (try simp only [hcn] at hc); (try simp only [hc]); (try simp only [hcl] at hc); try omega))
    subst hQ
    rw [← List.flatMap_append, hadd] at o2
    have hlen : J.length + (A.drop k).length = (addsE A C).length := by rw [← hadd, List.length_append]
    refine ⟨Ss.lit o2 rfl entC_len hlen (Nat.mul_le_mul_right 4 (by rw [← hlen, hdl]; omega)), .inr ⟨_, _, _, _, _, _, rfl, by rw [hdl]; omega, fun h => by omega⟩, st.past' t2 fun q hq => by rw [hq]; exact Nat.le_refl _⟩
  have hless := hless hil
  repeat' (first
    | refine St.h ?_
    | simp (disch := first | omega | (simp only [lnv]; omega)) only [wlk, ↓get_put', ↓reduceIte, seval, f0, f5, f15, f16, f17, hC.ix, hCg.la, Int.toNat_natCast]
    | (with_reducible (first | apply cd_split | apply gd_split)) <;> (intro hc; (try simp only [hcn] at hc); (try simp only [hc]); (try simp only [hcl] at hc); try omega))
  refine AL.own (by simp) hfg fun g1 t1 _ oe => ?_
  have hfg1 := t1.fl hfg
  have hcid : g.next ≠ h.next := fun e => by have := own_lt' og; rw [e] at this; omega
  repeat' (first
    | refine St.h ?_
    | simp (disch := first | omega | (simp only [lnv]; omega)) only [wlk, ↓get_put', ↓reduceIte, seval, f0, f5, f15, f16, f17, hC.ix, hCg.la, Int.toNat_natCast]
    | (with_reducible (first | apply cd_split | apply gd_split)) <;> (intro hc; (try simp only [hcn] at hc); (try simp only [hc]); (try simp only [hcl] at hc); try omega))
  refine ST.all oe rfl rfl (by simp) (by simp) fun g2 oe t2 => ?_
  have t12 : Stay nowhere g g2 := t1.past' t2 fun q hq => by rw [hq]; exact Nat.le_refl _
  have st2 := st.trans t12
  have og2 := og.stay t12 fun h => h
  generalize hidn : g.next = idn at *
  repeat' (first
    | refine St.h ?_
    | simp (disch := first | omega | (simp only [lnv]; omega)) only [wlk, ↓get_put', ↓reduceIte, seval, f0, f5, f15, f16, f17]
    | (with_reducible (first | apply cd_split | apply gd_split)) <;> (intro hc; (try simp only [hcn] at hc); (try simp only [hc]); (try simp only [hcl] at hc); try omega))
  refine Ok.lp (fun m t g => ∃ (k : Nat) (w : V) (J : List Ent), m = A.length - k ∧ k ≤ A.length ∧ J.length ≤ k + i ∧ get 0 t = w ∧ get 5 t = .l h.next 0 0 J.length ((A.length + C.length) * 4) (some (A.length + C.length)) ∧ get 7 t = .p idn 0 0 4 ∧ get 15 t = u ∧ get 16 t = .i .i64 (C.length : Int) ∧ get 17 t = .i .i64 (i : Int) ∧ Stay nowhere h g ∧ Ev.Own g h.next (J.flatMap entC) ∧ Ev.Own g idn [sv (C.getD i default).key, .i .i64 (C.getD i default).seq, .b (C.getD i default).del, sv (C.getD i default).val] ∧ Es h w (A.drop k) ∧ SwN 4 w ∧ J ++ A.drop k = addsE A (C.take i) ∧ (∀ a ∈ J, lessE a (C.getD i default) = true)) (A.length - k) ?_ ?_
  · simp (disch := first | omega | (simp only [lnv]; omega)) only [wlk, ↓get_put', ↓reduceIte, seval, f0, f5, f15, f16, f17]
    refine ⟨k, w, J, rfl, hk, hJ, ?_⟩
    refine ⟨?_, ?_, ?_, ?_, ?_, ?_, st2, og2, oe, hw, sw, hadd, hless⟩
    all_goals first | trivial | rfl
  rintro I2 hI2 m2 t3 g3 ⟨k, w, J, rfl, hk, hJ, f0, f5, f7, f15, f16, f17, st, og, oe, hw, sw, hadd, hless⟩
  have hfg := st.fl hf
  have hwg := hw.grow st
  have hdl : (A.drop k).length = A.length - k := List.length_drop
  have hJm := fm_len entC_len J
  have htk : addsE A (C.take (i + 1)) = addE (addsE A (C.take i)) (C.getD i default) := by rw [take_ent hil, addsE_snoc]
  have nxt : i + 1 < C.length → lessE (C.getD i default) (C.getD (i + 1) default) = true := fun h => pw_at sC (by omega) h
  have hsd : sortedE (A.drop k) = true := sorted_drop sA k
  -- behind the inner loop: the entry itself
  have hcs : ((0 < (A.drop k).length) = False ∧ k = A.length ∧ A.drop k = []) ∨ ((0 < (A.drop k).length) = True ∧ k < A.length ∧ lessE (C.getD i default) (A.getD k default) = true) ∨ ((0 < (A.drop k).length) = True ∧ k < A.length ∧ lessE (C.getD i default) (A.getD k default) = false) := by
    by_cases c : k < A.length
    · refine .inr ?_
      have c1 : (0 < (A.drop k).length) = True := eq_true (by omega)
      cases c2 : lessE (C.getD i default) (A.getD k default) with
      | true => exact .inl ⟨c1, c, rfl⟩
      | false => exact .inr ⟨c1, c, rfl⟩
    · exact .inl ⟨eq_false (by omega), by omega, List.drop_eq_nil_of_le (by omega)⟩
  have hfmE : ∀ x : Ent, [sv x.key, V.i .i64 x.seq, .b x.del, sv x.val] = entC x := fun _ => rfl
  rcases hcs with ⟨d1, d2, d3⟩ | ⟨d1, d2, d3⟩ | ⟨d1, d2, d3⟩
  · have hnew := jn_new hless hsd (.inl d3)
    rw [hadd, ← htk, d3] at hnew
    have hz : (A.drop k).length = 0 := by rw [d3]; rfl
    repeat' (first
      | refine St.h ?_
      | simp (disch := first | omega | (simp only [lnv]; omega)) only [wlk, ↓get_put', ↓reduceIte, seval, f0, f5, f7, f15, f16, f17, hwg.ln, hz, oe.row.ln]
      | (with_reducible (first | apply cd_split | apply gd_split)) <;> (intro hc; (try simp only [hcn] at hc); (try simp only [hc]); (try simp only [hcl] at hc); try omega))
    refine AL.own (by simp) hfg fun g4 t4 _ o4 => ?_
    have hfg4 := t4.fl hfg
    have og4 := og.stay t4 fun h => h
    repeat' (first
      | refine St.h ?_
      | simp (disch := first | omega | (simp only [lnv]; omega)) only [wlk, ↓get_put', ↓reduceIte, seval, f0, f5, f7, f15, f16, f17]
      | (with_reducible (first | apply cd_split | apply gd_split)) <;> (intro hc; (try simp only [hcn] at hc); (try simp only [hc]); (try simp only [hcl] at hc); try omega))
    refine AP.made (vs := entC (C.getD i default)) (cnt := 1) og4 hJm (new_row o4.row rfl (Nat.le_refl _) (by omega) (by show 4 ≤ 4; omega)) rfl rfl (by omega) (by omega) (by omega) fun g5 o5 t5 => ?_
    have st5 := (st.trans t4).past' t5 fun q hq => by rw [hq]; exact Nat.le_refl _
    repeat' (first
      | refine St.h ?_
      | simp (disch := first | omega | (simp only [lnv]; omega)) only [wlk, ↓get_put', ↓reduceIte, seval, f0, f5, f7, f15, f16, f17]
      | (with_reducible (first | apply cd_split | apply gd_split)) <;> (intro hc; (try simp only [hcn] at hc); (try simp only [hc]); (try simp only [hcl] at hc); try omega))
    refine lp_next hI (C.length - (i + 1)) (by omega) ⟨i + 1, k, w, J ++ [C.getD i default], rfl, by omega, hk, by simp; omega, by simp (disch := first | omega | (simp only [lnv]; omega)) only [wlk, ↓get_put', ↓reduceIte, seval, f0], by simp (disch := first | omega | (simp only [lnv]; omega)) only [wlk, ↓get_put', ↓reduceIte, seval]; simp, by simp (disch := first | omega | (simp only [lnv]; omega)) only [wlk, ↓get_put', ↓reduceIte, seval, f15], by simp (disch := first | omega | (simp only [lnv]; omega)) only [wlk, ↓get_put', ↓reduceIte, seval, f16], by simp (disch := first | omega | (simp only [lnv]; omega)) only [wlk, ↓get_put', ↓reduceIte, seval, f17]; rfl, st5, by rw [List.flatMap_append]; simpa using o5, hw, sw, by rw [hnew, d3]; simp, fun h2 a ha => ?_⟩
    rcases List.mem_append.1 ha with m | m
    · exact lessE_trans (hless a m) (nxt h2)
    · rw [List.mem_singleton.1 m]; exact nxt h2
  · have hd0 : (A.drop k).getD 0 default = A.getD k default := by simp [List.getD]
    have hz : (A.drop k).length = A.length - k := hdl
    have hnew := jn_new hless hsd (.inr (by rw [hd0]; exact d3))
    rw [hadd, ← htk] at hnew
    repeat' (first
      | refine St.h ?_
      | simp (disch := first | omega | (simp only [lnv]; omega)) only [wlk, ↓get_put', ↓reduceIte, seval, f0, f5, f7, f15, f16, f17, hwg.ln, hwg.ix, la_zero hwg d2, oe.row.ln]
      | (with_reducible (first | apply cd_split | apply gd_split)) <;> (intro hc; (try simp only [hcn] at hc); (try simp only [hc]); (try simp only [hcl] at hc); try omega))
    refine CL.stay (less_ok (a := C.getD i default) (b := A.getD k default) hfg) fun g3' t3' => ?_
    rw [d3]
    have hfg3 := t3'.fl hfg
    have oe3 := oe.stay t3' fun h => h
    repeat' (first
      | refine St.h ?_
      | simp (disch := first | omega | (simp only [lnv]; omega)) only [wlk, ↓get_put', ↓reduceIte, seval, f0, f5, f7, f15, f16, f17, oe3.row.ln]
      | (with_reducible (first | apply cd_split | apply gd_split)) <;> (intro hc; (try simp only [hcn] at hc); (try simp only [hc]); (try simp only [hcl] at hc); try omega))
    refine AL.own (by simp) hfg3 fun g4 t4 _ o4 => ?_
    have hfg4 := t4.fl hfg3
    have og4 := (og.stay t3' fun h => h).stay t4 fun h => h
    repeat' (first
      | refine St.h ?_
      | simp (disch := first | omega | (simp only [lnv]; omega)) only [wlk, ↓get_put', ↓reduceIte, seval, f0, f5, f7, f15, f16, f17]
      | (with_reducible (first | apply cd_split | apply gd_split)) <;> (intro hc; (try simp only [hcn] at hc); (try simp only [hc]); (try simp only [hcl] at hc); try omega))
    refine AP.made (vs := entC (C.getD i default)) (cnt := 1) og4 hJm (new_row o4.row rfl (Nat.le_refl _) (by omega) (by show 4 ≤ 4; omega)) rfl rfl (by omega) (by omega) (by omega) fun g5 o5 t5 => ?_
    have st5 := ((st.trans t3').trans t4).past' t5 fun q hq => by rw [hq]; exact Nat.le_refl _
    repeat' (first
      | refine St.h ?_
      | simp (disch := first | omega | (simp only [lnv]; omega)) only [wlk, ↓get_put', ↓reduceIte, seval, f0, f5, f7, f15, f16, f17]
      | (with_reducible (first | apply cd_split | apply gd_split)) <;> (intro hc; (try simp only [hcn] at hc); (try simp only [hc]); (try simp only [hcl] at hc); try omega))
    refine lp_next hI (C.length - (i + 1)) (by omega) ⟨i + 1, k, w, J ++ [C.getD i default], rfl, by omega, hk, by simp; omega, by simp (disch := first | omega | (simp only [lnv]; omega)) only [wlk, ↓get_put', ↓reduceIte, seval, f0], by simp (disch := first | omega | (simp only [lnv]; omega)) only [wlk, ↓get_put', ↓reduceIte, seval]; simp, by simp (disch := first | omega | (simp only [lnv]; omega)) only [wlk, ↓get_put', ↓reduceIte, seval, f15], by simp (disch := first | omega | (simp only [lnv]; omega)) only [wlk, ↓get_put', ↓reduceIte, seval, f16], by simp (disch := first | omega | (simp only [lnv]; omega)) only [wlk, ↓get_put', ↓reduceIte, seval, f17]; rfl, st5, by rw [List.flatMap_append]; simpa using o5, hw, sw, by rw [hnew]; simp, fun h2 a ha => ?_⟩
    rcases List.mem_append.1 ha with m | m
    · exact lessE_trans (hless a m) (nxt h2)
    · rw [List.mem_singleton.1 m]; exact nxt h2
  · have hd0 : (A.drop k).getD 0 default = A.getD k default := by simp [List.getD]
    have hdc : A.drop k = A.getD k default :: A.drop (k + 1) := drop_entM d2
    obtain ⟨x, x1, x2, x3⟩ := Ss.lo (P := Try.prog) (kd := .i64) (k := 1) hw entC_len sw (by omega)
    rw [List.drop_drop] at x1
    have x3 : ∀ (g : H) (N : Nx), H2 Try.prog (slLoV 4) w (.i .i64 1) g N = N.go Try.prog x g := x3
    repeat' (first
      | refine St.h ?_
      | simp (disch := first | omega | (simp only [lnv]; omega)) only [wlk, ↓get_put', ↓reduceIte, seval, f0, f5, f7, f15, f16, f17, hwg.ln, hwg.ix, la_zero hwg d2, oe.row.ln]
      | (with_reducible (first | apply cd_split | apply gd_split)) <;> (intro hc; (try simp only [hcn] at hc); (try simp only [hc]); (try simp only [hcl] at hc); try omega))
    refine CL.stay (less_ok (a := C.getD i default) (b := A.getD k default) hfg) fun g3' t3' => ?_
    rw [d3]
    have hfg3 := t3'.fl hfg
    have oe3 := oe.stay t3' fun h => h
    have og3 := og.stay t3' fun h => h
    have hwg3 := hwg.grow t3'
    repeat' (first
      | refine St.h ?_
      | simp (disch := first | omega | (simp only [lnv]; omega)) only [wlk, ↓get_put', ↓reduceIte, seval, f0, f5, f7, f15, f16, f17, hwg3.ix, la_zero hwg3 d2]
      | (with_reducible (first | apply cd_split | apply gd_split)) <;> (intro hc; (try simp only [hcn] at hc); (try simp only [hc]); (try simp only [hcl] at hc); try omega))
    refine AL.own (by simp) hfg3 fun g4 t4 _ o4 => ?_
    have hfg4 := t4.fl hfg3
    have og4 := og3.stay t4 fun h => h
    have oe4 := oe3.stay t4 fun h => h
    have hwg4 := hwg3.grow t4
    have n1 : g3'.next ≠ h.next := fun e => by have := own_lt' og3; rw [e] at this; omega
    have n2 : g3'.next ≠ idn := fun e => by have := own_lt' oe3; rw [e] at this; omega
    repeat' (first
      | refine St.h ?_
      | simp (disch := first | omega | (simp only [lnv]; omega)) only [wlk, ↓get_put', ↓reduceIte, seval, f0, f5, f7, f15, f16, f17, hwg4.ix, la_zero hwg4 d2]
      | (with_reducible (first | apply cd_split | apply gd_split)) <;> (intro hc; (try simp only [hcn] at hc); (try simp only [hc]); (try simp only [hcl] at hc); try omega))
    refine ST.all o4 rfl rfl (by simp) (by simp) fun g5 o5 t5 => ?_
    have og5 := og4.stay t5 fun h => n1 h.symm
    have oe5 := oe4.stay t5 fun h => n2 h.symm
    have t45 : Stay nowhere g3' g5 := t4.past' t5 fun q hq => by rw [hq]; exact Nat.le_refl _
    have hfg5 := t45.fl hfg3
    repeat' (first
      | refine St.h ?_
      | simp (disch := first | omega | (simp only [lnv]; omega)) only [wlk, ↓get_put', ↓reduceIte, seval, f0, f5, f7, f15, f16, f17, x3, o5.row.ln]
      | (with_reducible (first | apply cd_split | apply gd_split)) <;> (intro hc; (try simp only [hcn] at hc); (try simp only [hc]); (try simp only [hcl] at hc); try omega))
    refine AL.own (by simp) hfg5 fun g6 t6 _ o6 => ?_
    have hfg6 := t6.fl hfg5
    have og6 := og5.stay t6 fun h => h
    have oe6 := oe5.stay t6 fun h => h
    have o56 := o5.stay t6 fun h => h
    repeat' (first
      | refine St.h ?_
      | simp (disch := first | omega | (simp only [lnv]; omega)) only [wlk, ↓get_put', ↓reduceIte, seval, f0, f5, f7, f15, f16, f17]
      | (with_reducible (first | apply cd_split | apply gd_split)) <;> (intro hc; (try simp only [hcn] at hc); (try simp only [hc]); (try simp only [hcl] at hc); try omega))
    refine AP.made (vs := entC (A.getD k default)) (cnt := 1) og6 hJm (new_row o6.row rfl (Nat.le_refl _) (by omega) (by show 4 ≤ 4; omega)) rfl rfl (by omega) (by omega) (by omega) fun g7 o7 t7 => ?_
    have st7 := (((st.trans t3').trans t45).trans t6).past' t7 fun q hq => by rw [hq]; exact Nat.le_refl _
    have hfg7 := st7.fl hf
    have oe7 := oe6.stay t7 fun h => hcid h
    have o57 := o56.stay t7 fun h => n1 h
    have hJ2 : (J ++ [A.getD k default]).flatMap entC = J.flatMap entC ++ entC (A.getD k default) := by rw [List.flatMap_append]; simp
    have hadd2 : (J ++ [A.getD k default]) ++ A.drop (k + 1) = J ++ A.drop k := by rw [hdc, List.append_assoc]; rfl
    repeat' (first
      | refine St.h ?_
      | simp (disch := first | omega | (simp only [lnv]; omega)) only [wlk, ↓get_put', ↓reduceIte, seval, f0, f5, f7, f15, f16, f17, o57.row.ln, oe7.row.ln]
      | (with_reducible (first | apply cd_split | apply gd_split)) <;> (intro hc; (try simp only [hcn] at hc); (try simp only [hc]); (try simp only [hcl] at hc); try omega))
    refine CL.stay (less_ok (a := A.getD k default) (b := C.getD i default) hfg7) fun g8 t8 => ?_
    have st8 := st7.trans t8
    cases d4 : lessE (A.getD k default) (C.getD i default) with
    | true =>
      repeat' (first
        | refine St.h ?_
        | simp (disch := first | omega | (simp only [lnv]; omega)) only [wlk, ↓get_put', ↓reduceIte, seval, f0, f5, f7, f15, f16, f17]
        | (with_reducible (first | apply cd_split | apply gd_split)) <;> (intro hc; (try simp only [hcn] at hc); (try simp only [hc]); (try simp only [hcl] at hc); try omega))
      refine lp_next hI2 (A.length - (k + 1)) (by omega) ⟨k + 1, x, J ++ [A.getD k default], rfl, by omega, by simp; omega, by simp (disch := first | omega | (simp only [lnv]; omega)) only [wlk, ↓get_put', ↓reduceIte, seval], by simp (disch := first | omega | (simp only [lnv]; omega)) only [wlk, ↓get_put', ↓reduceIte, seval]; simp, by simp (disch := first | omega | (simp only [lnv]; omega)) only [wlk, ↓get_put', ↓reduceIte, seval, f7], by simp (disch := first | omega | (simp only [lnv]; omega)) only [wlk, ↓get_put', ↓reduceIte, seval, f15], by simp (disch := first | omega | (simp only [lnv]; omega)) only [wlk, ↓get_put', ↓reduceIte, seval, f16], by simp (disch := first | omega | (simp only [lnv]; omega)) only [wlk, ↓get_put', ↓reduceIte, seval, f17], st8, by rw [hJ2]; exact o7.stay t8 fun h => h, oe7.stay t8 fun h => h, x1, x2, by rw [hadd2]; exact hadd, fun a ha => ?_⟩
      rcases List.mem_append.1 ha with m | m
      · exact hless a m
      · rw [List.mem_singleton.1 m]; exact d4
    | false =>
      have hsame := jn_same (J := J) (C := A.drop (k + 1)) d3 d4
      rw [← hdc, hadd, ← htk] at hsame
      repeat' (first
        | refine St.h ?_
        | simp (disch := first | omega | (simp only [lnv]; omega)) only [wlk, ↓get_put', ↓reduceIte, seval, f0, f5, f7, f15, f16, f17]
        | (with_reducible (first | apply cd_split | apply gd_split)) <;> (intro hc; (try simp only [hcn] at hc); (try simp only [hc]); (try simp only [hcl] at hc); try omega))
      refine lp_next hI (C.length - (i + 1)) (by omega) ⟨i + 1, k + 1, x, J ++ [A.getD k default], rfl, by omega, by omega, by simp; omega, by simp (disch := first | omega | (simp only [lnv]; omega)) only [wlk, ↓get_put', ↓reduceIte, seval], by simp (disch := first | omega | (simp only [lnv]; omega)) only [wlk, ↓get_put', ↓reduceIte, seval]; simp, by simp (disch := first | omega | (simp only [lnv]; omega)) only [wlk, ↓get_put', ↓reduceIte, seval, f15], by simp (disch := first | omega | (simp only [lnv]; omega)) only [wlk, ↓get_put', ↓reduceIte, seval, f16], by simp (disch := first | omega | (simp only [lnv]; omega)) only [wlk, ↓get_put', ↓reduceIte, seval, f17]; rfl, st8, by rw [hJ2]; exact o7.stay t8 fun h => h, x1, x2, by rw [hadd2, hadd, hsame], fun h2 a ha => ?_⟩
      rcases List.mem_append.1 ha with m | m
      · exact lessE_trans (hless a m) (nxt h2)
      · rw [List.mem_singleton.1 m]; exact le_less d3 (nxt h2)
end Go.Proofs.Ytnjgoggnhdpnoaa

set_option maxRecDepth 1000000
namespace Go.Proofs.Ytnjgoggnhdpnoaa.ravelinlaw11
open Go.Ev
theorem known_run : runFn noTb Try.prog 1000 8 [] = true := by kernel_rfl
theorem known_pure : PureTrue Try.prog 8 := pure_of (noTb_ok _) (Checked.mixed Try.checked) known_run
end Go.Proofs.Ytnjgoggnhdpnoaa.ravelinlaw11

set_option maxRecDepth 100000
set_option maxHeartbeats 8000000
set_option linter.all false
namespace Go.Proofs.Ytnjgoggnhdpnoaa
open Go Go.Ev
theorem Bls.take {h : H} {v u : V} {R : List (List Ent)} {ks : List Bk} {k : Nat} (a : Bls h v R ks) (b : Ss 1 bkC h u (ks.take k)) : Bls h u (R.take k) (ks.take k) :=
  ⟨b, by rw [← a.eq, List.map_take], fun x hx => a.es x (List.mem_of_mem_take hx)⟩
theorem Bls.drop {h : H} {v u : V} {R : List (List Ent)} {ks : List Bk} {k : Nat} (a : Bls h v R ks) (b : Ss 1 bkC h u (ks.drop k)) : Bls h u (R.drop k) (ks.drop k) :=
  ⟨b, by rw [← a.eq, List.map_drop], fun x hx => a.es x (List.mem_of_mem_drop hx)⟩
theorem Bls.ld0 {h : H} {v : V} {R : List (List Ent)} {ks : List Bk} (a : Bls h v R ks) (hi : 0 < R.length) (N : Nx) : L1 Try.prog (lid v) (lg v) (loff v) (lfin v) h N = N.go Try.prog (ks.getD 0 default).v h := by
  have := a.ld (P := Try.prog) (N := N) hi
  rwa [Nat.add_zero] at this
theorem all_take {R : List (List Ent)} {p : List Ent → Bool} (k : Nat) (h : R.all p = true) : (R.take k).all p = true := by
  rw [List.all_eq_true] at h ⊢
  exact fun x hx => h x (List.mem_of_mem_take hx)
theorem all_drop {R : List (List Ent)} {p : List Ent → Bool} (k : Nat) (h : R.all p = true) : (R.drop k).all p = true := by
  rw [List.all_eq_true] at h ⊢
  exact fun x hx => h x (List.mem_of_mem_drop hx)
theorem flat_parts {R : List (List Ent)} (k : Nat) : (R.take k).flatten.length + (R.drop k).flatten.length = R.flatten.length := by
  rw [← List.length_append, ← List.flatten_append, List.take_append_drop]
theorem join_step {h : H} {v : V} {R : List (List Ent)} {ks : List Bk} (hB : Bls h v R ks) (hw : SwN 1 v) (hs : R.all sortedE = true) (hl : R.length ≤ 1000) (hfl : R.flatten.length ≤ 5000) (hf : B.val h.floor ≤ B.val h.next)
    (ih : ∀ {h : H} {v : V} {R' : List (List Ent)} {ks : List Bk}, Bls h v R' ks → SwN 1 v → R'.all sortedE = true → R'.length < R.length → R'.flatten.length ≤ 5000 → B.val h.floor ≤ B.val h.next → FnOk Try.prog 22 [v] h fun y h' => Es h' y (addsE [] R'.flatten) ∧ SwN 4 y ∧ Stay nowhere h h') :
    FnOk Try.prog 22 [v] h fun y h' => Es h' y (addsE [] R.flatten) ∧ SwN 4 y ∧ Stay nowhere h h' := by
  refine fn_go c22 (by intro hb; cases hb) (by simp) (by simp) fun Q hQ => ?_
  simp only [slotsF, Nat.reduceAdd]
  by_cases h0 : R.length = 0
  case pos =>
    have d1 : ((R.length : Int) = 0) = True := eq_true (by omega)
    repeat' (first
      | refine St.h ?_
      | simp (disch := first | omega | (simp only [lnv]; omega)) only [wlk, ↓get_put', ↓reduceIte, seval, hB.ln, d1]
      | (with_reducible (first | apply cd_split | apply gd_split)) <;> (intro hc; (try simp only [hcn] at hc); (try simp only [hc]); (try simp only [hcl] at hc); try omega))
    subst hQ
    rw [List.eq_nil_of_length_eq_zero h0]
    exact ⟨Ss.nil, .inl rfl, Stay.refl _ _⟩
  have d1 : ((R.length : Int) = 0) = False := eq_false (by omega)
  by_cases h1 : R.length = 1
  case pos =>
    have d2 : ((R.length : Int) = 1) = True := eq_true (by omega)
    have hes := hB.at (i := 0) (by omega)
    obtain ⟨r, rfl⟩ : ∃ r, R = [r] := by
      cases R with
      | nil => exact absurd rfl h0
      | cons a R => cases R with
        | nil => exact ⟨a, rfl⟩
        | cons b R => simp at h1
    have hr : r.length ≤ 5000 := by simpa using hfl
    have hsr : sortedE r = true := by simpa using hs
    repeat' (first
      | refine St.h ?_
      | simp (disch := first | omega | (simp only [lnv]; omega)) only [wlk, ↓get_put', ↓reduceIte, seval, hB.ln, d1, d2, hB.ix, hB.ld0]
      | (with_reducible (first | apply cd_split | apply gd_split)) <;> (intro hc; (try simp only [hcn] at hc); (try simp only [hc]); (try simp only [hcl] at hc); try omega))
    refine CL.mk (cloneE_ok (L := r) hes (by omega) hf) ?_
    rintro y h2 ⟨y1, y2, y3⟩
    repeat' (first
      | refine St.h ?_
      | simp (disch := first | omega | (simp only [lnv]; omega)) only [wlk, ↓get_put', ↓reduceIte, seval]
      | (with_reducible (first | apply cd_split | apply gd_split)) <;> (intro hc; (try simp only [hcn] at hc); (try simp only [hc]); (try simp only [hcl] at hc); try omega))
    subst hQ
    rw [rows_one hsr]
    exact ⟨y1, y2, y3⟩
  have d2 : ((R.length : Int) = 1) = False := eq_false (by omega)
  have hkl := hB.len
  have e1 : (R.length : Int) / 2 = ((R.length / 2 : Nat) : Int) := by omega
  obtain ⟨x, x1, x2, x3⟩ := Ss.hi (P := Try.prog) (kd := .i64) (k := R.length / 2) hB.ss bkC_len hw (by omega)
  obtain ⟨z, z1, z2, z3⟩ := Ss.lo (P := Try.prog) (kd := .i64) (k := R.length / 2) hB.ss bkC_len hw (by omega)
  have B1 := hB.take x1
  have B2 := hB.drop z1
  have hp := flat_parts (R := R) (R.length / 2)
  repeat' (first
    | refine St.h ?_
    | simp (disch := first | omega | (simp only [lnv]; omega)) only [wlk, ↓get_put', ↓reduceIte, seval, hB.ln, d1, d2, e1, x3, z3]
    | (with_reducible (first | apply cd_split | apply gd_split)) <;> (intro hc; (try simp only [hcn] at hc); (try simp only [hc]); (try simp only [hcl] at hc); try omega))
  refine CL.mk (ih B1 x2 (all_take _ hs) (by rw [List.length_take]; omega) (by omega) hf) ?_
  rintro y h2 ⟨y1, y2, y3⟩
  have hf2 := y3.fl hf
  repeat' (first
    | refine St.h ?_
    | simp (disch := first | omega | (simp only [lnv]; omega)) only [wlk, ↓get_put', ↓reduceIte, seval, hB.ln, d1, d2, e1, x3, z3]
    | (with_reducible (first | apply cd_split | apply gd_split)) <;> (intro hc; (try simp only [hcn] at hc); (try simp only [hc]); (try simp only [hcl] at hc); try omega))
  refine CL.mk (ih (B2.grow y3) z2 (all_drop _ hs) (by rw [List.length_drop]; omega) (by omega) hf2) ?_
  rintro u h3 ⟨u1, u2, u3⟩
  have hf3 := u3.fl hf2
  have l1 := addsE_len (L := []) (M := (R.take (R.length / 2)).flatten)
  have l2 := addsE_len (L := []) (M := (R.drop (R.length / 2)).flatten)
  simp only [List.length_nil, Nat.zero_add] at l1 l2
  repeat' (first
    | refine St.h ?_
    | simp (disch := first | omega | (simp only [lnv]; omega)) only [wlk, ↓get_put', ↓reduceIte, seval]
    | (with_reducible (first | apply cd_split | apply gd_split)) <;> (intro hc; (try simp only [hcn] at hc); (try simp only [hc]); (try simp only [hcl] at hc); try omega))
  refine CL.mk (joinTwo_ok (y1.grow u3) u1 y2 (addsE_sorted (L := []) rfl) (addsE_sorted (L := []) rfl) (by omega) hf3) ?_
  rintro w h4 ⟨w1, w2, w3⟩
  rw [rows_halves] at w1
  repeat' (first
    | refine St.h ?_
    | simp (disch := first | omega | (simp only [lnv]; omega)) only [wlk, ↓get_put', ↓reduceIte, seval]
    | (with_reducible (first | apply cd_split | apply gd_split)) <;> (intro hc; (try simp only [hcn] at hc); (try simp only [hc]); (try simp only [hcl] at hc); try omega))
  subst hQ
  exact ⟨w1, w2, (y3.trans u3).trans w3⟩
theorem join_ok : ∀ (n : Nat) {h : H} {v : V} {R : List (List Ent)} {ks : List Bk}, R.length < n → n ≤ 1001 → Bls h v R ks → SwN 1 v → R.all sortedE = true → R.flatten.length ≤ 5000 → B.val h.floor ≤ B.val h.next → FnOk Try.prog 22 [v] h fun y h' => Es h' y (addsE [] R.flatten) ∧ SwN 4 y ∧ Stay nowhere h h'
  | 0, h, v, R, ks, hn, _, _, _, _, _, _ => absurd hn (by omega)
  | n + 1, h, v, R, ks, hn, hb, hB, hw, hs, hfl, hf => join_step hB hw hs (by omega) hfl hf fun a b c d e f => join_ok n (by omega) (by omega) a b c e f
def errR (R : List (List Ent)) : Int := if (rowsE R).2 then 0 else 16
theorem mrows_ok {h : H} {v : V} {R : List (List Ent)} {ks : List Bk} (hB : Bls h v R ks) (hw : SwN 1 v) (hl : R.length ≤ 1000) (hfl : R.flatten.length ≤ 5000) (hf : B.val h.floor ≤ B.val h.next) : FnOk Try.prog 11 [v] h fun y h' =>
    ∃ w, y = .tu [w, .i .i64 (errR R)] ∧ Es h' w (rowsE R).1 ∧ SwN 4 w ∧ Stay nowhere h h' := by
  refine fn_go c11 (by intro hb; cases hb) (by simp) (by simp) fun Q hQ => ?_
  simp only [slotsF, Nat.reduceAdd]
  repeat' (first
    | refine St.h ?_
    | simp (disch := first | omega | (simp only [lnv]; omega)) only [wlk, ↓get_put', ↓reduceIte, seval, hB.ln]
    | (with_reducible (first | apply cd_split | apply gd_split)) <;> (intro hc; (try simp only [hcn] at hc); (try simp only [hc]); (try simp only [hcl] at hc); try omega))
  refine Ok.lp (fun m t g => ∃ (i : Nat), m = R.length - i ∧ i ≤ R.length ∧ get 0 t = v ∧ get 6 t = v ∧ get 7 t = .i .i64 (R.length : Int) ∧ get 8 t = .i .i64 (i : Int) ∧ Stay nowhere h g ∧ (∀ q, q < i → sortedE (R.getD q []) = true)) R.length ?_ ?_
  · simp (disch := first | omega | (simp only [lnv]; omega)) only [wlk, ↓get_put', ↓reduceIte, seval]
    refine ⟨0, by omega, by omega, ?_⟩
    refine ⟨?_, ?_, ?_, ?_, Stay.refl _ _, fun q hq => by omega⟩
    all_goals first | trivial | rfl
  rintro I hI m t g ⟨i, rfl, hi, f0, f6, f7, f8, st, hso⟩
  have hfg := st.fl hf
  have hBg := hB.grow st
  by_cases hil : i < R.length
  case neg =>
    obtain rfl : i = R.length := by omega
    have hall : R.all sortedE = true := by
      rw [List.all_eq_true]
      intro a ha
      obtain ⟨q, hq, rfl⟩ := List.getElem_of_mem ha
      have := hso q hq
      rwa [List.getD_eq_getElem?_getD, List.getElem?_eq_getElem hq] at this
    repeat' (first
      | refine St.h ?_
      | simp (disch := first | omega | (simp only [lnv]; omega)) only [wlk, ↓get_put', ↓reduceIte, seval, f0, f6, f7, f8]
      | (with_reducible (first | apply cd_split | apply gd_split)) <;> (intro hc; (try simp only [hcn] at hc); (try simp only [hc]); (try simp only [hcl] at hc); try omega))
    refine CL.mk (join_ok (R.length + 1) (by omega) (by omega) hBg hw hall hfl hfg) ?_
    rintro y h2 ⟨y1, y2, y3⟩
    repeat' (first
      | refine St.h ?_
      | simp (disch := first | omega | (simp only [lnv]; omega)) only [wlk, ↓get_put', ↓reduceIte, seval]
      | (with_reducible (first | apply cd_split | apply gd_split)) <;> (intro hc; (try simp only [hcn] at hc); (try simp only [hc]); (try simp only [hcl] at hc); try omega))
    subst hQ
    refine ⟨y, ?_, by rw [rowsE_ok hall]; exact y1, y2, st.trans y3⟩
    unfold errR; rw [rowsE_ok hall]; rfl
  have hes := hBg.at hil
  have hla := flat_len_at hil
  repeat' (first
    | refine St.h ?_
    | simp (disch := first | omega | (simp only [lnv]; omega)) only [wlk, ↓get_put', ↓reduceIte, seval, f0, f6, f7, f8, hB.ix hil, hBg.ld hil, Int.toNat_natCast]
    | (with_reducible (first | apply cd_split | apply gd_split)) <;> (intro hc; (try simp only [hcn] at hc); (try simp only [hc]); (try simp only [hcl] at hc); try omega))
  refine CL.stay (sorted_ok hes (by omega) hfg) fun g1 t1 => ?_
  have st1 := st.trans t1
  cases hs : sortedE (R.getD i []) with
  | false =>
    have hall : R.all sortedE = false := by
      rw [List.all_eq_false]
      refine ⟨R.getD i [], ?_, by rw [hs]; simp⟩
      rw [List.getD_eq_getElem?_getD, List.getElem?_eq_getElem hil]; simp
    repeat' (first
      | refine St.h ?_
      | simp (disch := first | omega | (simp only [lnv]; omega)) only [wlk, ↓get_put', ↓reduceIte, seval]
      | (with_reducible (first | apply cd_split | apply gd_split)) <;> (intro hc; (try simp only [hcn] at hc); (try simp only [hc]); (try simp only [hcl] at hc); try omega))
    subst hQ
    refine ⟨.l0, ?_, by rw [rowsE_bad hall]; exact Ss.nil, .inl rfl, st1⟩
    unfold errR; rw [rowsE_bad hall]; rfl
  | true =>
    repeat' (first
      | refine St.h ?_
      | simp (disch := first | omega | (simp only [lnv]; omega)) only [wlk, ↓get_put', ↓reduceIte, seval, f0, f6, f7, f8]
      | (with_reducible (first | apply cd_split | apply gd_split)) <;> (intro hc; (try simp only [hcn] at hc); (try simp only [hc]); (try simp only [hcl] at hc); try omega))
    refine lp_next hI (R.length - (i + 1)) (by omega) ⟨i + 1, rfl, by omega, by simp (disch := first | omega | (simp only [lnv]; omega)) only [wlk, ↓get_put', ↓reduceIte, seval, f0], by simp (disch := first | omega | (simp only [lnv]; omega)) only [wlk, ↓get_put', ↓reduceIte, seval, f6], by simp (disch := first | omega | (simp only [lnv]; omega)) only [wlk, ↓get_put', ↓reduceIte, seval, f7], by simp (disch := first | omega | (simp only [lnv]; omega)) only [wlk, ↓get_put', ↓reduceIte, seval, f8]; rfl, st1, fun q hq => ?_⟩
    by_cases e : q = i
    · rw [e]; exact hs
    · exact hso q (by omega)
theorem known11 {h : H} : FnOk Try.prog 8 [] h fun y h' => y = .b true ∧ h' = h := FnOk.of_pure ravelinlaw11.known_pure h
end Go.Proofs.Ytnjgoggnhdpnoaa

set_option maxRecDepth 100000
set_option maxHeartbeats 8000000
set_option linter.all false
namespace Go.Proofs.Ytnjgoggnhdpnoaa
open Go Go.Ev
theorem few_len {L : List Ent} (h : fewE L = true) : L.length ≤ 60 ∧ ∀ e ∈ L, e.key.length ≤ 20 ∧ e.val.length ≤ 40 := by
  unfold fewE at h
  rw [Bool.and_eq_true] at h
  refine ⟨of_decide_eq_true h.2, fun e he => ?_⟩
  have := (List.all_eq_true.1 h.1) e he
  unfold okE at this
  rw [Bool.and_eq_true] at this
  exact ⟨of_decide_eq_true this.1, of_decide_eq_true this.2⟩
end Go.Proofs.Ytnjgoggnhdpnoaa

set_option maxRecDepth 1000000
set_option linter.all false
namespace Go.Proofs.Ytnjgoggnhdpnoaa
open Go Go.Ev
noncomputable abbrev s8_0 : CC := (CC.seq (CC.draws [(uB 46 (doMove (tm 4))), (uB 47 (bin2 fEql (tm 46) (oN 0))), (uB 48 (doMove (tm 47))), (uG 48 true 49 (doMove (tm 3))), (uG 48 true 50 (doLen (tm 49))), (uG 48 true 51 (bin2 fEql (tm 50) (oN 4))), (uB 52 (doPick (tm 48) (tm 51) (O.c (V.b Bool.false)))), (uB 53 (doMove (tm 52))), (uG 53 true 54 (doMove (tm 3))), (uG 53 true 55 (doIndexAddr 4 (tm 54) (oN 1))), (uG 53 true 56 (doLoadA 4 (tm 55))), (uG 53 true 57 (doMove (tm 2))), (uG 53 true 58 (doIndexAddr 4 (tm 57) (oN 0))), (uG 53 true 59 (doLoadA 4 (tm 58))), (uG 53 true 60 (doSEq [KD.s, KD.i, KD.b, KD.s] Bool.false (tm 56) (tm 59))), (uB 61 (doPick (tm 53) (tm 60) (O.c (V.b Bool.false)))), (uB 62 (doMove (tm 61))), (uG 62 true 63 (doMove (tm 6))), (uG 62 true 64 (bin2 fEql (tm 63) (oN 16))), (uB 65 (doPick (tm 62) (tm 64) (O.c (V.b Bool.false)))), (uB 66 (doMove (tm 65))), (uG 66 true 67 (doMove (tm 7))), (uG 66 true 68 (doLen (tm 67))), (uG 66 true 69 (bin2 fEql (tm 68) (oN 0))), (uB 70 (doPick (tm 66) (tm 69) (O.c (V.b Bool.false)))), (uB 71 (doMove (tm 70))), (uG 71 true 72 (doMove (tm 8))), (uG 71 true 73 (doLen (tm 72))), (uG 71 true 74 (bin2 fEql (tm 73) (oN 1))), (uB 75 (doPick (tm 71) (tm 74) (O.c (V.b Bool.false)))), (uB 76 (doMove (tm 75))), (uG 76 true 77 (doMove (tm 9))), (uG 76 true 78 (doLen (tm 77))), (uG 76 true 79 (bin2 fEql (tm 78) (oN 3))), (uB 80 (doPick (tm 76) (tm 79) (O.c (V.b Bool.false)))), (uB 81 (doMove (tm 80))), (uG 81 true 82 (doMove (tm 10))), (uG 81 true 83 (doLen (tm 82))), (uG 81 true 84 (bin2 fEql (tm 83) (oN 1))), (uB 85 (doPick (tm 81) (tm 84) (O.c (V.b Bool.false)))), (uB 0 (doMove (tm 85)))]) CC.ret)
noncomputable abbrev s8_1 : CC := (CC.seq (CC.region [(wB 43 (doMove (tm 3))), (wB 44 (doBuildSlice 3 1 [(V.i IntKind.i64 (Int.ofNat 0))] [(Pt.mk 0 1 (oN 2))])), (wB 45 (doCall 16 [(tm 43), (tm 44), (O.c (V.b Bool.true))])), (wB 10 (doMove (tm 45)))]) s8_0)
noncomputable abbrev s8_2 : CC := (CC.seq (CC.region [(wB 40 (doMove (tm 3))), (wB 41 (doBuildSlice 3 1 [(V.i IntKind.i64 (Int.ofNat 0))] [(Pt.mk 0 1 (oN 2))])), (wB 42 (doCall 16 [(tm 40), (tm 41), (O.c (V.b Bool.false))])), (wB 9 (doMove (tm 42)))]) s8_1)
noncomputable abbrev s8_3 : CC := (CC.seq (CC.region [(wB 38 (doMove (tm 3))), (wB 39 (doCall 14 [(tm 38), (oN 3)])), (wB 8 (doMove (tm 39)))]) s8_2)
noncomputable abbrev s8_4 : CC := (CC.seq (CC.region [(wB 36 (doMove (tm 3))), (wB 37 (doCall 14 [(tm 36), (oN 2)])), (wB 7 (doMove (tm 37)))]) s8_3)
noncomputable abbrev s8_5 : CC := (CC.seq (CC.draws [(uB 25 (doMove (tm 1))), (uB 26 (doIndexAddr 4 (tm 25) (oN 1))), (uB 27 (doLoadA 4 (tm 26))), (uB 28 (doMove (tm 1))), (uB 29 (doIndexAddr 4 (tm 28) (oN 0))), (uB 30 (doLoadA 4 (tm 29))), (wB 31 (doBuildSlice 39 2 [(V.s 0 0), (V.i IntKind.i64 (Int.ofNat 0)), (V.b Bool.false), (V.s 0 0), (V.s 0 0), (V.i IntKind.i64 (Int.ofNat 0)), (V.b Bool.false), (V.s 0 0)] [(Pt.mk 0 4 (tm 27)), (Pt.mk 4 4 (tm 30))])), (wB 32 (doBuildSlice 23 1 [V.l0] [(Pt.mk 0 1 (tm 31))])), (wB 33 (doCall 11 [(tm 32)])), (uB 24 (doMove (tm 33))), (uB 34 (doExtract 0 (tm 24))), (uB 35 (doExtract 1 (tm 24))), (uB 5 (doMove (tm 34))), (uB 6 (doMove (tm 35)))]) s8_4)
noncomputable abbrev s8_6 : CC := (CC.seq (CC.region [(wB 18 (doMove (tm 1))), (wB 19 (doMove (tm 2))), (wB 20 (doBuildSlice 23 2 [V.l0, V.l0] [(Pt.mk 0 1 (tm 18)), (Pt.mk 1 1 (tm 19))])), (wB 21 (doCall 11 [(tm 20)])), (wB 17 (doMove (tm 21))), (wB 22 (doExtract 0 (tm 17))), (wB 23 (doExtract 1 (tm 17))), (wB 3 (doMove (tm 22))), (wB 4 (doMove (tm 23)))]) s8_5)
noncomputable abbrev s8_7 : CC := (CC.seq (CC.region [(wB 14 (doBuild [(V.s 0 0), (V.i IntKind.i64 (Int.ofNat 0)), (V.b Bool.false), (V.s 0 0)] [(Pt.mk 0 1 (O.c (V.s 1 97))), (Pt.mk 1 1 (oN 2)), (Pt.mk 2 1 (O.c (V.b Bool.true)))])), (wB 15 (doBuild [(V.s 0 0), (V.i IntKind.i64 (Int.ofNat 0)), (V.b Bool.false), (V.s 0 0)] [(Pt.mk 0 1 (O.c (V.s 1 98))), (Pt.mk 1 1 (oN 1)), (Pt.mk 2 1 (O.c (V.b Bool.true)))])), (wB 16 (doBuildSlice 39 2 [(V.s 0 0), (V.i IntKind.i64 (Int.ofNat 0)), (V.b Bool.false), (V.s 0 0), (V.s 0 0), (V.i IntKind.i64 (Int.ofNat 0)), (V.b Bool.false), (V.s 0 0)] [(Pt.mk 0 4 (tm 14)), (Pt.mk 4 4 (tm 15))])), (wB 2 (doMove (tm 16)))]) s8_6)
noncomputable abbrev s8_8 : CC := (CC.seq (CC.region [(wB 11 (doBuild [(V.s 0 0), (V.i IntKind.i64 (Int.ofNat 0)), (V.b Bool.false), (V.s 0 0)] [(Pt.mk 0 1 (O.c (V.s 1 97))), (Pt.mk 1 1 (oN 3)), (Pt.mk 3 1 (O.c (V.s 1 122)))])), (wB 12 (doBuild [(V.s 0 0), (V.i IntKind.i64 (Int.ofNat 0)), (V.b Bool.false), (V.s 0 0)] [(Pt.mk 0 1 (O.c (V.s 1 97))), (Pt.mk 1 1 (oN 1)), (Pt.mk 3 1 (O.c (V.s 1 120)))])), (wB 13 (doBuildSlice 39 2 [(V.s 0 0), (V.i IntKind.i64 (Int.ofNat 0)), (V.b Bool.false), (V.s 0 0), (V.s 0 0), (V.i IntKind.i64 (Int.ofNat 0)), (V.b Bool.false), (V.s 0 0)] [(Pt.mk 0 4 (tm 11)), (Pt.mk 4 4 (tm 12))])), (wB 1 (doMove (tm 13)))]) s8_7)
noncomputable abbrev b8 : CC := (CC.seq (CC.region [(wB 0 (doMove (O.c (V.b Bool.false))))]) s8_8)
noncomputable abbrev s3_0 : CC := (CC.seq (CC.region [(wB 10 (doMove (O.c (V.b Bool.false))))]) CC.ret)
noncomputable abbrev s3_1 : CC := (CC.cond (tm 16) s3_0 CC.skip)
noncomputable abbrev s3_2 : CC := (CC.seq (CC.region [(wB 15 (doCall 8 [])), (wB 16 (doNot (tm 15)))]) s3_1)
noncomputable abbrev s3_3 : CC := (CC.seq (CC.region [(wB 10 (doMove (O.c (V.b Bool.true))))]) CC.ret)
noncomputable abbrev s3_4 : CC := (CC.cond (tm 29) s3_3 CC.skip)
noncomputable abbrev s3_5 : CC := (CC.seq (CC.region [(wB 17 (doMove (tm 0))), (wB 18 (doCall 9 [(tm 17)])), (wB 19 (doNot (tm 18))), (wB 20 (doMove (tm 19))), (wG 20 false 21 (doMove (tm 1))), (wG 20 false 22 (doCall 10 [(tm 21)])), (wG 20 false 23 (doNot (tm 22))), (wB 24 (doPick (tm 20) (O.c (V.b Bool.true)) (tm 23))), (wB 25 (doMove (tm 24))), (wG 25 false 26 (doMove (tm 3))), (wG 25 false 27 (doLen (tm 26))), (wG 25 false 28 (bin2 fGtr (tm 27) (oN 10))), (wB 29 (doPick (tm 25) (O.c (V.b Bool.true)) (tm 28)))]) s3_4)
noncomputable abbrev s3_6 : CC := (CC.seq (CC.region [(wB 40 (doMove (tm 11))), (wB 41 (doMove (tm 13))), (wB 42 (doCall 13 [(tm 40), (tm 41)])), (wB 43 (doMove (tm 42))), (wG 43 true 44 (doMove (tm 12))), (wG 43 true 45 (bin2 fEql (tm 44) (oN 0))), (wG 43 true 46 (doMove (tm 14))), (wG 43 true 47 (doBool Bool.false (tm 45) (tm 46))), (wB 48 (doPick (tm 43) (tm 47) (O.c (V.b Bool.false)))), (wB 49 (doMove (tm 48))), (wG 49 true 50 (doMove (tm 12))), (wG 49 true 51 (bin2 fEql (tm 50) (oN 0))), (wG 49 true 52 (doMove (tm 51))), (wG 52 false 53 (doMove (tm 12))), (wG 52 false 54 (bin2 fEql (tm 53) (oN 16))), (wG 49 true 55 (doPick (tm 52) (O.c (V.b Bool.true)) (tm 54))), (wB 56 (doPick (tm 49) (tm 55) (O.c (V.b Bool.false)))), (wB 57 (doMove (tm 56))), (wG 57 true 58 (doMove (tm 1))), (wG 57 true 59 (doMove (tm 2))), (wG 57 true 60 (doCall 14 [(tm 58), (tm 59)])), (wG 57 true 61 (doMove (tm 1))), (wG 57 true 62 (doMove (tm 2))), (wG 57 true 63 (doCall 15 [(tm 61), (tm 62)])), (wG 57 true 64 (doCall 13 [(tm 60), (tm 63)])), (wB 65 (doPick (tm 57) (tm 64) (O.c (V.b Bool.false)))), (wB 66 (doMove (tm 65))), (wG 66 true 67 (doMove (tm 1))), (wG 66 true 68 (doMove (tm 3))), (wG 66 true 69 (doMove (tm 4))), (wG 66 true 70 (doCall 16 [(tm 67), (tm 68), (tm 69)])), (wG 66 true 71 (doMove (tm 1))), (wG 66 true 72 (doMove (tm 3))), (wG 66 true 73 (doMove (tm 4))), (wG 66 true 74 (doCall 17 [(tm 71), (tm 72), (tm 73)])), (wG 66 true 75 (doCall 13 [(tm 70), (tm 74)])), (wB 76 (doPick (tm 66) (tm 75) (O.c (V.b Bool.false)))), (wB 10 (doMove (tm 76)))]) CC.ret)
noncomputable abbrev s3_7 : CC := (CC.seq (CC.region [(wB 36 (doMove (tm 0))), (wB 37 (doCall 12 [(tm 36)])), (wB 35 (doMove (tm 37))), (wB 38 (doExtract 0 (tm 35))), (wB 39 (doExtract 1 (tm 35))), (wB 13 (doMove (tm 38))), (wB 14 (doMove (tm 39)))]) s3_6)
noncomputable abbrev s3_8 : CC := (CC.seq (CC.region [(wB 31 (doMove (tm 0))), (wB 32 (doCall 11 [(tm 31)])), (wB 30 (doMove (tm 32))), (wB 33 (doExtract 0 (tm 30))), (wB 34 (doExtract 1 (tm 30))), (wB 11 (doMove (tm 33))), (wB 12 (doMove (tm 34)))]) s3_7)
noncomputable abbrev s3_9 : CC := (CC.seq s3_5 s3_8)
noncomputable abbrev s3_10 : CC := (CC.seq s3_2 s3_9)
noncomputable abbrev b3 : CC := (CC.seq (CC.region [(wB 10 (doMove (O.c (V.b Bool.false))))]) s3_10)
theorem c3 : compFn Try.prog 3 = ⟨77, b3, [(Rs.tmp (slOf 10))]⟩ := by kernel_rfl
noncomputable abbrev s4_0 : CC := (CC.seq (CC.region [(wB 6 (doMove (O.c (V.b Bool.false))))]) CC.ret)
noncomputable abbrev s4_1 : CC := (CC.cond (tm 14) s4_0 CC.skip)
noncomputable abbrev s4_2 : CC := (CC.seq (CC.region [(wB 13 (doCall 8 [])), (wB 14 (doNot (tm 13)))]) s4_1)
noncomputable abbrev s4_3 : CC := (CC.seq (CC.region [(wB 6 (doMove (O.c (V.b Bool.true))))]) CC.ret)
noncomputable abbrev s4_4 : CC := (CC.cond (tm 27) s4_3 CC.skip)
noncomputable abbrev s4_5 : CC := (CC.seq (CC.region [(wB 15 (doMove (tm 0))), (wB 16 (doCall 10 [(tm 15)])), (wB 17 (doNot (tm 16))), (wB 18 (doMove (tm 17))), (wG 18 false 19 (doMove (tm 1))), (wG 18 false 20 (doLen (tm 19))), (wG 18 false 21 (bin2 fGtr (tm 20) (oN 10))), (wB 22 (doPick (tm 18) (O.c (V.b Bool.true)) (tm 21))), (wB 23 (doMove (tm 22))), (wG 23 false 24 (doMove (tm 0))), (wG 23 false 25 (doCall 18 [(tm 24)])), (wG 23 false 26 (doNot (tm 25))), (wB 27 (doPick (tm 23) (O.c (V.b Bool.true)) (tm 26)))]) s4_4)
noncomputable abbrev s4_6 : CC := (CC.cond (tm 31) CC.skip (CC.exit 0))
noncomputable abbrev s4_7 : CC := (CC.seq (CC.region [(wB 28 (doMove (tm 7))), (wB 29 (doMove (tm 0))), (wB 30 (doLen (tm 29))), (wB 31 (bin2 fLss (tm 28) (tm 30)))]) s4_6)
noncomputable abbrev s4_8 : CC := (CC.seq (CC.region [(wB 6 (doMove (O.c (V.b Bool.true))))]) CC.ret)
noncomputable abbrev s4_9 : CC := (CC.cond (tm 39) s4_8 CC.skip)
noncomputable abbrev s4_10 : CC := (CC.seq (CC.region [(wB 34 (doMove (tm 0))), (wB 35 (doMove (tm 7))), (wB 36 (doIndexAddr 4 (tm 34) (tm 35))), (wB 37 (doLoadA 4 (tm 36))), (wB 38 (doCall 19 [(tm 37)])), (wB 39 (doNot (tm 38)))]) s4_9)
noncomputable abbrev s4_11 : CC := (CC.block 1 s4_10)
noncomputable abbrev s4_12 : CC := (CC.region [(wB 32 (doMove (tm 7))), (wB 33 (bin2 fAdd (tm 32) (oN 1))), (wB 7 (doMove (tm 33)))])
noncomputable abbrev s4_13 : CC := (CC.seq s4_11 s4_12)
noncomputable abbrev l4_0 : CC := (CC.seq s4_7 s4_13)
noncomputable abbrev s4_14 : CC := (CC.loop l4_0)
noncomputable abbrev s4_15 : CC := (CC.block 0 s4_14)
noncomputable abbrev s4_16 : CC := (CC.seq (CC.region [(wB 7 (doMove (oN 0)))]) s4_15)
noncomputable abbrev s4_17 : CC := (CC.seq (CC.region [(wB 6 (doMove (O.c (V.b Bool.false))))]) CC.ret)
noncomputable abbrev s4_18 : CC := (CC.cond (tm 61) s4_17 CC.skip)
noncomputable abbrev s4_19 : CC := (CC.seq (CC.region [(wB 44 (doMove (tm 8))), (wB 45 (doCall 18 [(tm 44)])), (wB 46 (doNot (tm 45))), (wB 47 (doMove (tm 46))), (wG 47 false 48 (doMove (tm 8))), (wG 47 false 49 (doLen (tm 48))), (wG 47 false 50 (doMove (tm 0))), (wG 47 false 51 (doLen (tm 50))), (wG 47 false 52 (bin2 fGtr (tm 49) (tm 51))), (wB 53 (doPick (tm 47) (O.c (V.b Bool.true)) (tm 52))), (wB 54 (doMove (tm 53))), (wG 54 false 55 (doMove (tm 8))), (wG 54 false 56 (doCall 14 [(tm 55), (oN 1000000)])), (wG 54 false 57 (doMove (tm 0))), (wG 54 false 58 (doCall 14 [(tm 57), (oN 1000000)])), (wG 54 false 59 (doCall 13 [(tm 56), (tm 58)])), (wG 54 false 60 (doNot (tm 59))), (wB 61 (doPick (tm 54) (O.c (V.b Bool.true)) (tm 60)))]) s4_18)
noncomputable abbrev s4_20 : CC := (CC.cond (tm 65) CC.skip (CC.exit 2))
noncomputable abbrev s4_21 : CC := (CC.seq (CC.region [(wB 62 (doMove (tm 9))), (wB 63 (doMove (tm 1))), (wB 64 (doLen (tm 63))), (wB 65 (bin2 fLss (tm 62) (tm 64)))]) s4_20)
noncomputable abbrev s4_22 : CC := (CC.seq (CC.region [(wB 6 (doMove (O.c (V.b Bool.false))))]) CC.ret)
noncomputable abbrev s4_23 : CC := (CC.cond (tm 81) s4_22 CC.skip)
noncomputable abbrev s4_24 : CC := (CC.seq (CC.draws [(uB 68 (doMove (tm 8))), (uB 69 (doMove (tm 1))), (uB 70 (doMove (tm 9))), (uB 71 (doIndexAddr 1 (tm 69) (tm 70))), (uB 72 (doLoad (tm 71))), (uB 73 (doCall 14 [(tm 68), (tm 72)])), (uB 74 (doMove (tm 0))), (uB 75 (doMove (tm 1))), (uB 76 (doMove (tm 9))), (uB 77 (doIndexAddr 1 (tm 75) (tm 76))), (uB 78 (doLoad (tm 77))), (wB 79 (doCall 14 [(tm 74), (tm 78)])), (wB 80 (doCall 13 [(tm 73), (tm 79)])), (uB 81 (doNot (tm 80)))]) s4_23)
noncomputable abbrev s4_25 : CC := (CC.block 3 s4_24)
noncomputable abbrev s4_26 : CC := (CC.region [(wB 66 (doMove (tm 9))), (wB 67 (bin2 fAdd (tm 66) (oN 1))), (wB 9 (doMove (tm 67)))])
noncomputable abbrev s4_27 : CC := (CC.seq s4_25 s4_26)
noncomputable abbrev l4_1 : CC := (CC.seq s4_21 s4_27)
noncomputable abbrev s4_28 : CC := (CC.loop l4_1)
noncomputable abbrev s4_29 : CC := (CC.block 2 s4_28)
noncomputable abbrev s4_30 : CC := (CC.seq (CC.region [(wB 9 (doMove (oN 0)))]) s4_29)
noncomputable abbrev s4_31 : CC := (CC.cond (tm 85) CC.skip (CC.exit 4))
noncomputable abbrev s4_32 : CC := (CC.seq (CC.region [(wB 82 (doMove (tm 10))), (wB 83 (doMove (tm 8))), (wB 84 (doLen (tm 83))), (wB 85 (bin2 fLss (tm 82) (tm 84)))]) s4_31)
noncomputable abbrev s4_33 : CC := (CC.seq (CC.region [(wB 6 (doMove (O.c (V.b Bool.false))))]) CC.ret)
noncomputable abbrev s4_34 : CC := (CC.cond (tm 112) s4_33 CC.skip)
noncomputable abbrev s4_35 : CC := (CC.seq (CC.draws [(uB 103 (doMove (tm 12))), (uB 104 (doNot (tm 103))), (uB 105 (doMove (tm 104))), (uG 105 false 106 (doLoadA 4 (tm 11))), (uG 105 false 107 (doMove (tm 8))), (uG 105 false 108 (doMove (tm 10))), (uG 105 false 109 (doIndexAddr 4 (tm 107) (tm 108))), (uG 105 false 110 (doLoadA 4 (tm 109))), (uG 105 false 111 (doSEq [KD.s, KD.i, KD.b, KD.s] Bool.true (tm 106) (tm 110))), (uB 112 (doPick (tm 105) (O.c (V.b Bool.true)) (tm 111)))]) s4_34)
noncomputable abbrev s4_36 : CC := (CC.seq (CC.draws [(uB 89 (doMove (tm 0))), (uB 90 (doMove (tm 8))), (uB 91 (doMove (tm 10))), (uB 92 (doIndexAddr 4 (tm 90) (tm 91))), (uB 93 (doFieldAddr 0 (tm 92))), (uB 94 (doLoad (tm 93))), (uB 95 (doMove (tm 8))), (uB 96 (doMove (tm 10))), (uB 97 (doIndexAddr 4 (tm 95) (tm 96))), (uB 98 (doFieldAddr 1 (tm 97))), (uB 99 (doLoad (tm 98))), (uB 100 (doCall 20 [(tm 89), (tm 94), (tm 99)])), (uB 88 (doMove (tm 100))), (uB 101 (doExtract 0 (tm 88))), (uB 102 (doExtract 1 (tm 88))), (uB 11 (doAlloc 39 [(V.s 0 0), (V.i IntKind.i64 (Int.ofNat 0)), (V.b Bool.false), (V.s 0 0)])), (CO.mk G.none D.none Bool.true (CR.mk (doStore 4 (tm 11) (tm 101)))), (uB 12 (doMove (tm 102)))]) s4_35)
noncomputable abbrev s4_37 : CC := (CC.block 5 s4_36)
noncomputable abbrev s4_38 : CC := (CC.region [(wB 86 (doMove (tm 10))), (wB 87 (bin2 fAdd (tm 86) (oN 1))), (wB 10 (doMove (tm 87)))])
noncomputable abbrev s4_39 : CC := (CC.seq s4_37 s4_38)
noncomputable abbrev l4_2 : CC := (CC.seq s4_32 s4_39)
noncomputable abbrev s4_40 : CC := (CC.loop l4_2)
noncomputable abbrev s4_41 : CC := (CC.block 4 s4_40)
noncomputable abbrev s4_42 : CC := (CC.seq (CC.region [(wB 10 (doMove (oN 0)))]) s4_41)
noncomputable abbrev s4_43 : CC := (CC.seq (CC.region [(wB 6 (doMove (O.c (V.b Bool.true))))]) CC.ret)
noncomputable abbrev s4_44 : CC := (CC.seq s4_42 s4_43)
noncomputable abbrev s4_45 : CC := (CC.seq s4_30 s4_44)
noncomputable abbrev s4_46 : CC := (CC.seq s4_19 s4_45)
noncomputable abbrev s4_47 : CC := (CC.seq (CC.region [(wB 40 (doMove (tm 0))), (wB 41 (doMove (tm 1))), (wB 42 (doMove (tm 2))), (wB 43 (doCall 16 [(tm 40), (tm 41), (tm 42)])), (wB 8 (doMove (tm 43)))]) s4_46)
noncomputable abbrev s4_48 : CC := (CC.seq s4_16 s4_47)
noncomputable abbrev s4_49 : CC := (CC.seq s4_5 s4_48)
noncomputable abbrev s4_50 : CC := (CC.seq s4_2 s4_49)
noncomputable abbrev b4 : CC := (CC.seq (CC.region [(wB 6 (doMove (O.c (V.b Bool.false))))]) s4_50)
theorem c4 : compFn Try.prog 4 = ⟨113, b4, [(Rs.tmp (slOf 6))]⟩ := by kernel_rfl
noncomputable abbrev s5_0 : CC := (CC.seq (CC.region [(wB 4 (doMove (O.c (V.b Bool.false))))]) CC.ret)
noncomputable abbrev s5_1 : CC := (CC.cond (tm 13) s5_0 CC.skip)
noncomputable abbrev s5_2 : CC := (CC.seq (CC.region [(wB 12 (doCall 8 [])), (wB 13 (doNot (tm 12)))]) s5_1)
noncomputable abbrev s5_3 : CC := (CC.seq (CC.region [(wB 4 (doMove (O.c (V.b Bool.true))))]) CC.ret)
noncomputable abbrev s5_4 : CC := (CC.cond (tm 26) s5_3 CC.skip)
noncomputable abbrev s5_5 : CC := (CC.seq (CC.region [(wB 14 (doMove (tm 0))), (wB 15 (doCall 10 [(tm 14)])), (wB 16 (doNot (tm 15))), (wB 17 (doMove (tm 16))), (wG 17 false 18 (doMove (tm 1))), (wG 17 false 19 (doLen (tm 18))), (wG 17 false 20 (bin2 fGtr (tm 19) (oN 60))), (wB 21 (doPick (tm 17) (O.c (V.b Bool.true)) (tm 20))), (wB 22 (doMove (tm 21))), (wG 22 false 23 (doMove (tm 0))), (wG 22 false 24 (doCall 18 [(tm 23)])), (wG 22 false 25 (doNot (tm 24))), (wB 26 (doPick (tm 22) (O.c (V.b Bool.true)) (tm 25)))]) s5_4)
noncomputable abbrev s5_6 : CC := (CC.cond (tm 30) CC.skip (CC.exit 0))
noncomputable abbrev s5_7 : CC := (CC.seq (CC.region [(wB 27 (doMove (tm 7))), (wB 28 (doMove (tm 0))), (wB 29 (doLen (tm 28))), (wB 30 (bin2 fLss (tm 27) (tm 29)))]) s5_6)
noncomputable abbrev s5_8 : CC := (CC.region [(wB 43 (doMove (tm 5))), (wB 44 (doMove (tm 0))), (wB 45 (doMove (tm 7))), (wB 46 (doIndexAddr 4 (tm 44) (tm 45))), (wB 47 (doLoadA 4 (tm 46))), (wB 48 (doBuildSlice 39 1 [(V.s 0 0), (V.i IntKind.i64 (Int.ofNat 0)), (V.b Bool.false), (V.s 0 0)] [(Pt.mk 0 4 (tm 47))])), (wB 49 (doAppend 39 4 (tm 43) (tm 48))), (wB 5 (doMove (tm 49)))])
noncomputable abbrev s5_9 : CC := (CC.region [(wB 50 (doMove (tm 6))), (wB 51 (doMove (tm 0))), (wB 52 (doMove (tm 7))), (wB 53 (doIndexAddr 4 (tm 51) (tm 52))), (wB 54 (doLoadA 4 (tm 53))), (wB 55 (doBuildSlice 39 1 [(V.s 0 0), (V.i IntKind.i64 (Int.ofNat 0)), (V.b Bool.false), (V.s 0 0)] [(Pt.mk 0 4 (tm 54))])), (wB 56 (doAppend 39 4 (tm 50) (tm 55))), (wB 6 (doMove (tm 56)))])
noncomputable abbrev s5_10 : CC := (CC.cond (tm 42) s5_8 s5_9)
noncomputable abbrev s5_11 : CC := (CC.seq (CC.region [(wB 33 (doMove (tm 7))), (wB 34 (doMove (tm 1))), (wB 35 (doLen (tm 34))), (wB 36 (bin2 fLss (tm 33) (tm 35))), (wB 37 (doMove (tm 36))), (wG 37 true 38 (doMove (tm 1))), (wG 37 true 39 (doMove (tm 7))), (wG 37 true 40 (doIndexAddr 1 (tm 38) (tm 39))), (wG 37 true 41 (doLoad (tm 40))), (wB 42 (doPick (tm 37) (tm 41) (O.c (V.b Bool.false))))]) s5_10)
noncomputable abbrev s5_12 : CC := (CC.block 1 s5_11)
noncomputable abbrev s5_13 : CC := (CC.region [(wB 31 (doMove (tm 7))), (wB 32 (bin2 fAdd (tm 31) (oN 1))), (wB 7 (doMove (tm 32)))])
noncomputable abbrev s5_14 : CC := (CC.seq s5_12 s5_13)
noncomputable abbrev l5_0 : CC := (CC.seq s5_7 s5_14)
noncomputable abbrev s5_15 : CC := (CC.loop l5_0)
noncomputable abbrev s5_16 : CC := (CC.block 0 s5_15)
noncomputable abbrev s5_17 : CC := (CC.seq (CC.region [(wB 7 (doMove (oN 0)))]) s5_16)
noncomputable abbrev s5_18 : CC := (CC.seq (CC.region [(wB 72 (doMove (tm 9))), (wB 73 (bin2 fEql (tm 72) (oN 0))), (wB 74 (doMove (tm 73))), (wG 74 true 75 (doMove (tm 11))), (wG 74 true 76 (bin2 fEql (tm 75) (oN 0))), (wB 77 (doPick (tm 74) (tm 76) (O.c (V.b Bool.false)))), (wB 78 (doMove (tm 77))), (wG 78 true 79 (doMove (tm 8))), (wG 78 true 80 (doMove (tm 0))), (wG 78 true 81 (doCall 13 [(tm 79), (tm 80)])), (wB 82 (doPick (tm 78) (tm 81) (O.c (V.b Bool.false)))), (wB 83 (doMove (tm 82))), (wG 83 true 84 (doMove (tm 10))), (wG 83 true 85 (doMove (tm 0))), (wG 83 true 86 (doCall 13 [(tm 84), (tm 85)])), (wB 87 (doPick (tm 83) (tm 86) (O.c (V.b Bool.false)))), (wB 4 (doMove (tm 87)))]) CC.ret)
noncomputable abbrev s5_19 : CC := (CC.seq (CC.region [(wB 65 (doMove (tm 0))), (wB 66 (doMove (tm 5))), (wB 67 (doMove (tm 0))), (wB 68 (doBuildSlice 23 3 [V.l0, V.l0, V.l0] [(Pt.mk 0 1 (tm 65)), (Pt.mk 1 1 (tm 66)), (Pt.mk 2 1 (tm 67))])), (wB 69 (doCall 11 [(tm 68)])), (wB 64 (doMove (tm 69))), (wB 70 (doExtract 0 (tm 64))), (wB 71 (doExtract 1 (tm 64))), (wB 10 (doMove (tm 70))), (wB 11 (doMove (tm 71)))]) s5_18)
noncomputable abbrev s5_20 : CC := (CC.seq (CC.region [(wB 58 (doMove (tm 5))), (wB 59 (doMove (tm 6))), (wB 60 (doBuildSlice 23 2 [V.l0, V.l0] [(Pt.mk 0 1 (tm 58)), (Pt.mk 1 1 (tm 59))])), (wB 61 (doCall 11 [(tm 60)])), (wB 57 (doMove (tm 61))), (wB 62 (doExtract 0 (tm 57))), (wB 63 (doExtract 1 (tm 57))), (wB 8 (doMove (tm 62))), (wB 9 (doMove (tm 63)))]) s5_19)
noncomputable abbrev s5_21 : CC := (CC.seq s5_17 s5_20)
noncomputable abbrev s5_22 : CC := (CC.seq (CC.region [(wB 5 (doMove (O.c V.l0))), (wB 6 (doMove (O.c V.l0)))]) s5_21)
noncomputable abbrev s5_23 : CC := (CC.seq s5_5 s5_22)
noncomputable abbrev s5_24 : CC := (CC.seq s5_2 s5_23)
noncomputable abbrev b5 : CC := (CC.seq (CC.region [(wB 4 (doMove (O.c (V.b Bool.false))))]) s5_24)
theorem c5 : compFn Try.prog 5 = ⟨88, b5, [(Rs.tmp (slOf 4))]⟩ := by kernel_rfl
noncomputable abbrev s6_0 : CC := (CC.seq (CC.region [(wB 8 (doMove (O.c (V.b Bool.false))))]) CC.ret)
noncomputable abbrev s6_1 : CC := (CC.cond (tm 21) s6_0 CC.skip)
noncomputable abbrev s6_2 : CC := (CC.seq (CC.region [(wB 20 (doCall 8 [])), (wB 21 (doNot (tm 20)))]) s6_1)
noncomputable abbrev s6_3 : CC := (CC.seq (CC.region [(wB 8 (doMove (O.c (V.b Bool.true))))]) CC.ret)
noncomputable abbrev s6_4 : CC := (CC.cond (tm 24) s6_3 CC.skip)
noncomputable abbrev s6_5 : CC := (CC.seq (CC.region [(wB 22 (doMove (tm 1))), (wB 23 (doLen (tm 22))), (wB 24 (bin2 fGtr (tm 23) (oN 10)))]) s6_4)
noncomputable abbrev s6_6 : CC := (CC.cond (tm 34) CC.skip (CC.exit 0))
noncomputable abbrev s6_7 : CC := (CC.seq (CC.region [(wB 33 (doMove (tm 13))), (wB 34 (bin2 fGeq (tm 33) (oN 1)))]) s6_6)
noncomputable abbrev s6_8 : CC := (CC.region [(wB 37 (doMove (tm 10))), (wB 38 (doMove (tm 13))), (wB 39 (doMove (tm 2))), (wB 40 (doMove (tm 13))), (wB 41 (doConv IntKind.u64 (tm 40))), (wB 42 (doShift shrF (tm 39) (tm 41))), (wB 43 (bin2 fAnd (tm 42) (O.c (V.i IntKind.u32 (Int.ofNat 1))))), (wB 44 (bin2 fEql (tm 43) (O.c (V.i IntKind.u32 (Int.ofNat 1))))), (wB 45 (doBuild [(V.s 0 0), (V.i IntKind.i64 (Int.ofNat 0)), (V.b Bool.false), (V.s 0 0)] [(Pt.mk 0 1 (O.c (V.s 1 107))), (Pt.mk 1 1 (tm 38)), (Pt.mk 2 1 (tm 44))])), (wB 46 (doBuildSlice 39 1 [(V.s 0 0), (V.i IntKind.i64 (Int.ofNat 0)), (V.b Bool.false), (V.s 0 0)] [(Pt.mk 0 4 (tm 45))])), (wB 47 (doAppend 39 4 (tm 37) (tm 46))), (wB 10 (doMove (tm 47)))])
noncomputable abbrev s6_9 : CC := (CC.block 1 s6_8)
noncomputable abbrev s6_10 : CC := (CC.region [(wB 35 (doMove (tm 13))), (wB 36 (bin2 fSub (tm 35) (oN 1))), (wB 13 (doMove (tm 36)))])
noncomputable abbrev s6_11 : CC := (CC.seq s6_9 s6_10)
noncomputable abbrev l6_0 : CC := (CC.seq s6_7 s6_11)
noncomputable abbrev s6_12 : CC := (CC.loop l6_0)
noncomputable abbrev s6_13 : CC := (CC.block 0 s6_12)
noncomputable abbrev s6_14 : CC := (CC.seq (CC.region [(wB 32 (doMove (tm 9))), (wB 13 (doMove (tm 32)))]) s6_13)
noncomputable abbrev s6_15 : CC := (CC.cond (tm 54) CC.skip (CC.exit 2))
noncomputable abbrev s6_16 : CC := (CC.seq (CC.region [(wB 51 (doMove (tm 14))), (wB 52 (doMove (tm 1))), (wB 53 (doLen (tm 52))), (wB 54 (bin2 fLss (tm 51) (tm 53)))]) s6_15)
noncomputable abbrev s6_17 : CC := (CC.region [(wB 67 (doMove (tm 11))), (wB 68 (doMove (tm 15))), (wB 69 (doMove (tm 9))), (wB 70 (doMin (tm 68) (tm 69))), (wB 71 (doIndexAddr 1 (tm 67) (tm 70))), (CO.mk G.none D.none Bool.true (CR.mk (doStore 1 (tm 71) (O.c (V.b Bool.true)))))])
noncomputable abbrev s6_18 : CC := (CC.seq (CC.region [(wB 63 (doMove (tm 12))), (wB 64 (doMove (tm 15))), (wB 65 (doBuildSlice 3 1 [(V.i IntKind.i64 (Int.ofNat 0))] [(Pt.mk 0 1 (tm 64))])), (wB 66 (doAppend 3 1 (tm 63) (tm 65))), (wB 12 (doMove (tm 66)))]) s6_17)
noncomputable abbrev s6_19 : CC := (CC.seq (CC.region [(wB 57 (doMove (tm 1))), (wB 58 (doMove (tm 14))), (wB 59 (doIndexAddr 1 (tm 57) (tm 58))), (wB 60 (doLoad (tm 59))), (wB 61 (doRem (tm 60) (O.c (V.i IntKind.u8 (Int.ofNat 25))))), (wB 62 (doConv IntKind.i64 (tm 61))), (wB 15 (doMove (tm 62)))]) s6_18)
noncomputable abbrev s6_20 : CC := (CC.block 3 s6_19)
noncomputable abbrev s6_21 : CC := (CC.region [(wB 55 (doMove (tm 14))), (wB 56 (bin2 fAdd (tm 55) (oN 1))), (wB 14 (doMove (tm 56)))])
noncomputable abbrev s6_22 : CC := (CC.seq s6_20 s6_21)
noncomputable abbrev l6_1 : CC := (CC.seq s6_16 s6_22)
noncomputable abbrev s6_23 : CC := (CC.loop l6_1)
noncomputable abbrev s6_24 : CC := (CC.block 2 s6_23)
noncomputable abbrev s6_25 : CC := (CC.seq (CC.region [(wB 14 (doMove (oN 0)))]) s6_24)
noncomputable abbrev s6_26 : CC := (CC.cond (tm 79) CC.skip (CC.exit 4))
noncomputable abbrev s6_27 : CC := (CC.seq (CC.region [(wB 74 (doMove (tm 16))), (wB 75 (doMove (tm 9))), (wB 76 (bin2 fLeq (tm 74) (tm 75))), (wB 77 (doMove (tm 76))), (wG 77 true 78 (doMove (tm 3))), (wB 79 (doPick (tm 77) (tm 78) (O.c (V.b Bool.false))))]) s6_26)
noncomputable abbrev s6_28 : CC := (CC.cond (tm 86) (CC.exit 5) CC.skip)
noncomputable abbrev s6_29 : CC := (CC.seq (CC.region [(wB 82 (doMove (tm 11))), (wB 83 (doMove (tm 16))), (wB 84 (doIndexAddr 1 (tm 82) (tm 83))), (wB 85 (doLoad (tm 84))), (wB 86 (doNot (tm 85)))]) s6_28)
noncomputable abbrev s6_30 : CC := (CC.cond (tm 92) (CC.exit 4) CC.skip)
noncomputable abbrev s6_31 : CC := (CC.seq (CC.region [(wB 87 (doMove (tm 2))), (wB 88 (doMove (tm 16))), (wB 89 (doConv IntKind.u64 (tm 88))), (wB 90 (doShift shrF (tm 87) (tm 89))), (wB 91 (bin2 fAnd (tm 90) (O.c (V.i IntKind.u32 (Int.ofNat 1))))), (wB 92 (bin2 fEql (tm 91) (O.c (V.i IntKind.u32 (Int.ofNat 0)))))]) s6_30)
noncomputable abbrev s6_32 : CC := (CC.region [(wB 93 (doMove (tm 11))), (wB 94 (doMove (tm 16))), (wB 95 (doIndexAddr 1 (tm 93) (tm 94))), (CO.mk G.none D.none Bool.true (CR.mk (doStore 1 (tm 95) (O.c (V.b Bool.false)))))])
noncomputable abbrev s6_33 : CC := (CC.seq s6_31 s6_32)
noncomputable abbrev s6_34 : CC := (CC.seq s6_29 s6_33)
noncomputable abbrev s6_35 : CC := (CC.block 5 s6_34)
noncomputable abbrev s6_36 : CC := (CC.region [(wB 80 (doMove (tm 16))), (wB 81 (bin2 fAdd (tm 80) (oN 1))), (wB 16 (doMove (tm 81)))])
noncomputable abbrev s6_37 : CC := (CC.seq s6_35 s6_36)
noncomputable abbrev l6_2 : CC := (CC.seq s6_27 s6_37)
noncomputable abbrev s6_38 : CC := (CC.loop l6_2)
noncomputable abbrev s6_39 : CC := (CC.block 4 s6_38)
noncomputable abbrev s6_40 : CC := (CC.seq (CC.region [(wB 16 (doMove (oN 1)))]) s6_39)
noncomputable abbrev s6_41 : CC := (CC.cond (tm 102) CC.skip (CC.exit 6))
noncomputable abbrev s6_42 : CC := (CC.seq (CC.region [(wB 101 (doMove (tm 19))), (wB 102 (bin2 fGeq (tm 101) (oN 1)))]) s6_41)
noncomputable abbrev s6_43 : CC := (CC.cond (tm 109) (CC.exit 7) CC.skip)
noncomputable abbrev s6_44 : CC := (CC.seq (CC.region [(wB 105 (doMove (tm 11))), (wB 106 (doMove (tm 19))), (wB 107 (doIndexAddr 1 (tm 105) (tm 106))), (wB 108 (doLoad (tm 107))), (wB 109 (doNot (tm 108)))]) s6_43)
noncomputable abbrev s6_45 : CC := (CC.seq (CC.region [(wB 8 (doMove (O.c (V.b Bool.false))))]) CC.ret)
noncomputable abbrev s6_46 : CC := (CC.cond (tm 122) s6_45 CC.skip)
noncomputable abbrev s6_47 : CC := (CC.seq (CC.region [(wB 110 (doMove (tm 18))), (wB 111 (doMove (tm 17))), (wB 112 (doLen (tm 111))), (wB 113 (bin2 fGeq (tm 110) (tm 112))), (wB 114 (doMove (tm 113))), (wG 114 false 115 (doMove (tm 17))), (wG 114 false 116 (doMove (tm 18))), (wG 114 false 117 (doIndexAddr 4 (tm 115) (tm 116))), (wG 114 false 118 (doFieldAddr 1 (tm 117))), (wG 114 false 119 (doLoad (tm 118))), (wG 114 false 120 (doMove (tm 19))), (wG 114 false 121 (bin2 fNeq (tm 119) (tm 120))), (wB 122 (doPick (tm 114) (O.c (V.b Bool.true)) (tm 121)))]) s6_46)
noncomputable abbrev s6_48 : CC := (CC.region [(wB 123 (doMove (tm 18))), (wB 124 (bin2 fAdd (tm 123) (oN 1))), (wB 18 (doMove (tm 124)))])
noncomputable abbrev s6_49 : CC := (CC.seq s6_47 s6_48)
noncomputable abbrev s6_50 : CC := (CC.seq s6_44 s6_49)
noncomputable abbrev s6_51 : CC := (CC.block 7 s6_50)
noncomputable abbrev s6_52 : CC := (CC.region [(wB 103 (doMove (tm 19))), (wB 104 (bin2 fSub (tm 103) (oN 1))), (wB 19 (doMove (tm 104)))])
noncomputable abbrev s6_53 : CC := (CC.seq s6_51 s6_52)
noncomputable abbrev l6_3 : CC := (CC.seq s6_42 s6_53)
noncomputable abbrev s6_54 : CC := (CC.loop l6_3)
noncomputable abbrev s6_55 : CC := (CC.block 6 s6_54)
noncomputable abbrev s6_56 : CC := (CC.seq (CC.region [(wB 100 (doMove (tm 9))), (wB 19 (doMove (tm 100)))]) s6_55)
noncomputable abbrev s6_57 : CC := (CC.seq (CC.region [(wB 125 (doMove (tm 18))), (wB 126 (doMove (tm 17))), (wB 127 (doLen (tm 126))), (wB 128 (bin2 fEql (tm 125) (tm 127))), (wB 8 (doMove (tm 128)))]) CC.ret)
noncomputable abbrev s6_58 : CC := (CC.seq s6_56 s6_57)
noncomputable abbrev s6_59 : CC := (CC.seq (CC.region [(wB 18 (doMove (oN 0)))]) s6_58)
noncomputable abbrev s6_60 : CC := (CC.seq (CC.region [(wB 96 (doMove (tm 10))), (wB 97 (doMove (tm 12))), (wB 98 (doMove (tm 3))), (wB 99 (doCall 16 [(tm 96), (tm 97), (tm 98)])), (wB 17 (doMove (tm 99)))]) s6_59)
noncomputable abbrev s6_61 : CC := (CC.seq s6_40 s6_60)
noncomputable abbrev s6_62 : CC := (CC.seq (CC.region [(wB 72 (doMove (tm 11))), (wB 73 (doIndexAddr 1 (tm 72) (oN 0))), (CO.mk G.none D.none Bool.true (CR.mk (doStore 1 (tm 73) (O.c (V.b Bool.false)))))]) s6_61)
noncomputable abbrev s6_63 : CC := (CC.seq s6_25 s6_62)
noncomputable abbrev s6_64 : CC := (CC.seq (CC.region [(wB 48 (doMove (tm 11))), (wB 49 (doMove (tm 9))), (wB 50 (doIndexAddr 1 (tm 48) (tm 49))), (CO.mk G.none D.none Bool.true (CR.mk (doStore 1 (tm 50) (O.c (V.b Bool.true)))))]) s6_63)
noncomputable abbrev s6_65 : CC := (CC.seq s6_14 s6_64)
noncomputable abbrev s6_66 : CC := (CC.seq (CC.region [(wB 12 (doMove (O.c V.l0)))]) s6_65)
noncomputable abbrev s6_67 : CC := (CC.seq (CC.region [(wB 29 (doMove (tm 9))), (wB 30 (bin2 fAdd (tm 29) (oN 1))), (wB 31 (doMakeSlice 4 [(V.b Bool.false)] (tm 30) (tm 30))), (wB 11 (doMove (tm 31)))]) s6_66)
noncomputable abbrev s6_68 : CC := (CC.seq (CC.region [(wB 10 (doMove (O.c V.l0)))]) s6_67)
noncomputable abbrev s6_69 : CC := (CC.seq (CC.region [(wB 25 (doMove (tm 0))), (wB 26 (doRem (tm 25) (O.c (V.i IntKind.u8 (Int.ofNat 20))))), (wB 27 (doConv IntKind.i64 (tm 26))), (wB 28 (bin2 fAdd (tm 27) (oN 1))), (wB 9 (doMove (tm 28)))]) s6_68)
noncomputable abbrev s6_70 : CC := (CC.seq s6_5 s6_69)
noncomputable abbrev s6_71 : CC := (CC.seq s6_2 s6_70)
noncomputable abbrev b6 : CC := (CC.seq (CC.region [(wB 8 (doMove (O.c (V.b Bool.false))))]) s6_71)
theorem c6 : compFn Try.prog 6 = ⟨129, b6, [(Rs.tmp (slOf 8))]⟩ := by kernel_rfl
noncomputable abbrev s7_0 : CC := (CC.seq (CC.region [(wB 6 (doMove (O.c (V.b Bool.false))))]) CC.ret)
noncomputable abbrev s7_1 : CC := (CC.cond (tm 18) s7_0 CC.skip)
noncomputable abbrev s7_2 : CC := (CC.seq (CC.region [(wB 17 (doCall 8 [])), (wB 18 (doNot (tm 17)))]) s7_1)
noncomputable abbrev s7_3 : CC := (CC.seq (CC.region [(wB 6 (doMove (O.c (V.b Bool.true))))]) CC.ret)
noncomputable abbrev s7_4 : CC := (CC.cond (tm 26) s7_3 CC.skip)
noncomputable abbrev s7_5 : CC := (CC.seq (CC.region [(wB 19 (doMove (tm 0))), (wB 20 (doLen (tm 19))), (wB 21 (bin2 fGtr (tm 20) (oN 30))), (wB 22 (doMove (tm 21))), (wG 22 false 23 (doMove (tm 1))), (wG 22 false 24 (doLen (tm 23))), (wG 22 false 25 (bin2 fGtr (tm 24) (oN 30))), (wB 26 (doPick (tm 22) (O.c (V.b Bool.true)) (tm 25)))]) s7_4)
noncomputable abbrev s7_6 : CC := (CC.cond (tm 30) CC.skip (CC.exit 0))
noncomputable abbrev s7_7 : CC := (CC.seq (CC.region [(wB 27 (doMove (tm 8))), (wB 28 (doMove (tm 0))), (wB 29 (doLen (tm 28))), (wB 30 (bin2 fLss (tm 27) (tm 29)))]) s7_6)
noncomputable abbrev s7_8 : CC := (CC.region [(wB 33 (doMove (tm 0))), (wB 34 (doMove (tm 8))), (wB 35 (doIndexAddr 1 (tm 33) (tm 34))), (wB 36 (doLoad (tm 35))), (wB 37 (doRem (tm 36) (O.c (V.i IntKind.u8 (Int.ofNat 26))))), (wB 38 (doIndexAddrArr 2 26 (tm 7) (oN 0))), (wB 39 (doIndexAddrArr 26 1 (tm 38) (tm 37))), (CO.mk G.none D.none Bool.true (CR.mk (doStore 1 (tm 39) (O.c (V.b Bool.true)))))])
noncomputable abbrev s7_9 : CC := (CC.block 1 s7_8)
noncomputable abbrev s7_10 : CC := (CC.region [(wB 31 (doMove (tm 8))), (wB 32 (bin2 fAdd (tm 31) (oN 1))), (wB 8 (doMove (tm 32)))])
noncomputable abbrev s7_11 : CC := (CC.seq s7_9 s7_10)
noncomputable abbrev l7_0 : CC := (CC.seq s7_7 s7_11)
noncomputable abbrev s7_12 : CC := (CC.loop l7_0)
noncomputable abbrev s7_13 : CC := (CC.block 0 s7_12)
noncomputable abbrev s7_14 : CC := (CC.seq (CC.region [(wB 8 (doMove (oN 0)))]) s7_13)
noncomputable abbrev s7_15 : CC := (CC.cond (tm 43) CC.skip (CC.exit 2))
noncomputable abbrev s7_16 : CC := (CC.seq (CC.region [(wB 40 (doMove (tm 9))), (wB 41 (doMove (tm 1))), (wB 42 (doLen (tm 41))), (wB 43 (bin2 fLss (tm 40) (tm 42)))]) s7_15)
noncomputable abbrev s7_17 : CC := (CC.region [(wB 46 (doMove (tm 1))), (wB 47 (doMove (tm 9))), (wB 48 (doIndexAddr 1 (tm 46) (tm 47))), (wB 49 (doLoad (tm 48))), (wB 50 (doRem (tm 49) (O.c (V.i IntKind.u8 (Int.ofNat 26))))), (wB 51 (doIndexAddrArr 2 26 (tm 7) (oN 1))), (wB 52 (doIndexAddrArr 26 1 (tm 51) (tm 50))), (CO.mk G.none D.none Bool.true (CR.mk (doStore 1 (tm 52) (O.c (V.b Bool.true)))))])
noncomputable abbrev s7_18 : CC := (CC.block 3 s7_17)
noncomputable abbrev s7_19 : CC := (CC.region [(wB 44 (doMove (tm 9))), (wB 45 (bin2 fAdd (tm 44) (oN 1))), (wB 9 (doMove (tm 45)))])
noncomputable abbrev s7_20 : CC := (CC.seq s7_18 s7_19)
noncomputable abbrev l7_1 : CC := (CC.seq s7_16 s7_20)
noncomputable abbrev s7_21 : CC := (CC.loop l7_1)
noncomputable abbrev s7_22 : CC := (CC.block 2 s7_21)
noncomputable abbrev s7_23 : CC := (CC.seq (CC.region [(wB 9 (doMove (oN 0)))]) s7_22)
noncomputable abbrev s7_24 : CC := (CC.cond (tm 54) CC.skip (CC.exit 4))
noncomputable abbrev s7_25 : CC := (CC.seq (CC.region [(wB 53 (doMove (tm 13))), (wB 54 (bin2 fLss (tm 53) (oN 26)))]) s7_24)
noncomputable abbrev s7_26 : CC := (CC.cond (tm 58) CC.skip (CC.exit 6))
noncomputable abbrev s7_27 : CC := (CC.seq (CC.region [(wB 57 (doMove (tm 14))), (wB 58 (bin2 fLss (tm 57) (oN 2)))]) s7_26)
noncomputable abbrev s7_28 : CC := (CC.region [(wB 84 (doMove (tm 11))), (wB 85 (bin2 fAdd (tm 84) (oN 1))), (wB 11 (doMove (tm 85)))])
noncomputable abbrev s7_29 : CC := (CC.seq (CC.draws [(uB 66 (doMove (tm 14))), (uB 67 (doMove (tm 14))), (uB 68 (doIndexAddrArr 2 1 (tm 10) (tm 67))), (uB 69 (doLoad (tm 68))), (uB 70 (doMove (tm 13))), (uB 71 (bin2 fAdd (oN 97) (tm 70))), (uB 72 (doConv IntKind.u8 (tm 71))), (uB 73 (doBuildSlice 5 1 [(V.i IntKind.u8 (Int.ofNat 0))] [(Pt.mk 0 1 (tm 72))])), (uB 74 (doB2S (tm 73))), (uB 75 (doMove (tm 13))), (uB 76 (bin2 fAdd (tm 75) (oN 1))), (uB 77 (doMove (tm 14))), (uB 78 (bin2 fMul (oN 100) (tm 77))), (uB 79 (bin2 fAdd (tm 76) (tm 78))), (uB 80 (doBuild [(V.s 0 0), (V.i IntKind.i64 (Int.ofNat 0)), (V.b Bool.false), (V.s 0 0)] [(Pt.mk 0 1 (tm 74)), (Pt.mk 1 1 (tm 79))])), (uB 81 (doBuildSlice 39 1 [(V.s 0 0), (V.i IntKind.i64 (Int.ofNat 0)), (V.b Bool.false), (V.s 0 0)] [(Pt.mk 0 4 (tm 80))])), (wB 82 (doAppend 39 4 (tm 69) (tm 81))), (uB 83 (doIndexAddrArr 2 1 (tm 10) (tm 66))), (CO.mk G.none D.none Bool.true (CR.mk (doStore 1 (tm 83) (tm 82))))]) s7_28)
noncomputable abbrev s7_30 : CC := (CC.cond (tm 65) s7_29 CC.skip)
noncomputable abbrev s7_31 : CC := (CC.seq (CC.region [(wB 61 (doMove (tm 14))), (wB 62 (doMove (tm 13))), (wB 63 (doIndexAddrArr 2 26 (tm 7) (tm 61))), (wB 64 (doIndexAddrArr 26 1 (tm 63) (tm 62))), (wB 65 (doLoad (tm 64)))]) s7_30)
noncomputable abbrev s7_32 : CC := (CC.block 7 s7_31)
noncomputable abbrev s7_33 : CC := (CC.region [(wB 59 (doMove (tm 14))), (wB 60 (bin2 fAdd (tm 59) (oN 1))), (wB 14 (doMove (tm 60)))])
noncomputable abbrev s7_34 : CC := (CC.seq s7_32 s7_33)
noncomputable abbrev l7_2 : CC := (CC.seq s7_27 s7_34)
noncomputable abbrev s7_35 : CC := (CC.loop l7_2)
noncomputable abbrev s7_36 : CC := (CC.block 6 s7_35)
noncomputable abbrev s7_37 : CC := (CC.seq (CC.region [(wB 14 (doMove (oN 0)))]) s7_36)
noncomputable abbrev s7_38 : CC := (CC.region [(wB 110 (doMove (tm 12))), (wB 111 (bin2 fAdd (tm 110) (oN 1))), (wB 12 (doMove (tm 111)))])
noncomputable abbrev s7_39 : CC := (CC.cond (tm 109) s7_38 CC.skip)
noncomputable abbrev s7_40 : CC := (CC.seq (CC.region [(wB 86 (doMove (tm 13))), (wB 87 (doIndexAddrArr 2 26 (tm 7) (oN 0))), (wB 88 (doIndexAddrArr 26 1 (tm 87) (tm 86))), (wB 89 (doLoad (tm 88))), (wB 90 (doMove (tm 89))), (wG 90 true 91 (doMove (tm 13))), (wG 90 true 92 (bin2 fAdd (tm 91) (oN 1))), (wG 90 true 93 (doMove (tm 2))), (wG 90 true 94 (doConv IntKind.i64 (tm 93))), (wG 90 true 95 (bin2 fLeq (tm 92) (tm 94))), (wB 96 (doPick (tm 90) (tm 95) (O.c (V.b Bool.false)))), (wB 97 (doMove (tm 96))), (wG 97 false 98 (doMove (tm 13))), (wG 97 false 99 (doIndexAddrArr 2 26 (tm 7) (oN 1))), (wG 97 false 100 (doIndexAddrArr 26 1 (tm 99) (tm 98))), (wG 97 false 101 (doLoad (tm 100))), (wG 97 false 102 (doMove (tm 101))), (wG 102 true 103 (doMove (tm 13))), (wG 102 true 104 (bin2 fAdd (tm 103) (oN 101))), (wG 102 true 105 (doMove (tm 2))), (wG 102 true 106 (doConv IntKind.i64 (tm 105))), (wG 102 true 107 (bin2 fLeq (tm 104) (tm 106))), (wG 97 false 108 (doPick (tm 102) (tm 107) (O.c (V.b Bool.false)))), (wB 109 (doPick (tm 97) (O.c (V.b Bool.true)) (tm 108)))]) s7_39)
noncomputable abbrev s7_41 : CC := (CC.seq s7_37 s7_40)
noncomputable abbrev s7_42 : CC := (CC.block 5 s7_41)
noncomputable abbrev s7_43 : CC := (CC.region [(wB 55 (doMove (tm 13))), (wB 56 (bin2 fAdd (tm 55) (oN 1))), (wB 13 (doMove (tm 56)))])
noncomputable abbrev s7_44 : CC := (CC.seq s7_42 s7_43)
noncomputable abbrev l7_3 : CC := (CC.seq s7_25 s7_44)
noncomputable abbrev s7_45 : CC := (CC.loop l7_3)
noncomputable abbrev s7_46 : CC := (CC.block 4 s7_45)
noncomputable abbrev s7_47 : CC := (CC.seq (CC.region [(wB 13 (doMove (oN 0)))]) s7_46)
noncomputable abbrev s7_48 : CC := (CC.seq (CC.region [(wB 121 (doMove (tm 16))), (wB 122 (bin2 fEql (tm 121) (oN 0))), (wB 123 (doMove (tm 122))), (wG 123 true 124 (doMove (tm 15))), (wG 123 true 125 (doLen (tm 124))), (wG 123 true 126 (doMove (tm 11))), (wG 123 true 127 (bin2 fEql (tm 125) (tm 126))), (wB 128 (doPick (tm 123) (tm 127) (O.c (V.b Bool.false)))), (wB 129 (doMove (tm 128))), (wG 129 true 130 (doMove (tm 15))), (wG 129 true 131 (doMove (tm 2))), (wG 129 true 132 (doConv IntKind.i64 (tm 131))), (wG 129 true 133 (doCall 14 [(tm 130), (tm 132)])), (wG 129 true 134 (doLen (tm 133))), (wG 129 true 135 (doMove (tm 12))), (wG 129 true 136 (bin2 fEql (tm 134) (tm 135))), (wB 137 (doPick (tm 129) (tm 136) (O.c (V.b Bool.false)))), (wB 6 (doMove (tm 137)))]) CC.ret)
noncomputable abbrev s7_49 : CC := (CC.seq (CC.region [(wB 113 (doIndexAddrArr 2 1 (tm 10) (oN 0))), (wB 114 (doLoad (tm 113))), (wB 115 (doIndexAddrArr 2 1 (tm 10) (oN 1))), (wB 116 (doLoad (tm 115))), (wB 117 (doBuildSlice 23 2 [V.l0, V.l0] [(Pt.mk 0 1 (tm 114)), (Pt.mk 1 1 (tm 116))])), (wB 118 (doCall 11 [(tm 117)])), (wB 112 (doMove (tm 118))), (wB 119 (doExtract 0 (tm 112))), (wB 120 (doExtract 1 (tm 112))), (wB 15 (doMove (tm 119))), (wB 16 (doMove (tm 120)))]) s7_48)
noncomputable abbrev s7_50 : CC := (CC.seq s7_47 s7_49)
noncomputable abbrev s7_51 : CC := (CC.seq (CC.region [(wB 11 (doMove (oN 0))), (wB 12 (doMove (oN 0)))]) s7_50)
noncomputable abbrev s7_52 : CC := (CC.seq (CC.region [(wB 10 (doAlloc 51 [V.l0, V.l0]))]) s7_51)
noncomputable abbrev s7_53 : CC := (CC.seq s7_23 s7_52)
noncomputable abbrev s7_54 : CC := (CC.seq s7_14 s7_53)
noncomputable abbrev s7_55 : CC := (CC.seq (CC.region [(wB 7 (doAlloc 50 [(V.b Bool.false), (V.b Bool.false), (V.b Bool.false), (V.b Bool.false), (V.b Bool.false), (V.b Bool.false), (V.b Bool.false), (V.b Bool.false), (V.b Bool.false), (V.b Bool.false), (V.b Bool.false), (V.b Bool.false), (V.b Bool.false), (V.b Bool.false), (V.b Bool.false), (V.b Bool.false), (V.b Bool.false), (V.b Bool.false), (V.b Bool.false), (V.b Bool.false), (V.b Bool.false), (V.b Bool.false), (V.b Bool.false), (V.b Bool.false), (V.b Bool.false), (V.b Bool.false), (V.b Bool.false), (V.b Bool.false), (V.b Bool.false), (V.b Bool.false), (V.b Bool.false), (V.b Bool.false), (V.b Bool.false), (V.b Bool.false), (V.b Bool.false), (V.b Bool.false), (V.b Bool.false), (V.b Bool.false), (V.b Bool.false), (V.b Bool.false), (V.b Bool.false), (V.b Bool.false), (V.b Bool.false), (V.b Bool.false), (V.b Bool.false), (V.b Bool.false), (V.b Bool.false), (V.b Bool.false), (V.b Bool.false), (V.b Bool.false), (V.b Bool.false), (V.b Bool.false)]))]) s7_54)
noncomputable abbrev s7_56 : CC := (CC.seq s7_5 s7_55)
noncomputable abbrev s7_57 : CC := (CC.seq s7_2 s7_56)
noncomputable abbrev b7 : CC := (CC.seq (CC.region [(wB 6 (doMove (O.c (V.b Bool.false))))]) s7_57)
theorem c7 : compFn Try.prog 7 = ⟨138, b7, [(Rs.tmp (slOf 6))]⟩ := by kernel_rfl
end Go.Proofs.Ytnjgoggnhdpnoaa

set_option maxRecDepth 100000
set_option maxHeartbeats 8000000
set_option linter.all false
namespace Go.Proofs.Ytnjgoggnhdpnoaa
open Go Go.Ev
theorem few11_ok {h : H} {v : V} {L : List Ent} (hL : Es h v L) (hl : L.length ≤ 9223372036854775807) : FnOk Try.prog 10 [v] h fun y h' => y = .b (fewE L) ∧ h' = h := by
  refine fn_go c10 (by intro hb; cases hb) (by simp) (by simp) fun Q hQ => ?_
  simp only [slotsF, Nat.reduceAdd]
  repeat' (first
    | refine St.h ?_
    | simp (disch := first | omega | (simp only [lnv]; omega)) only [wlk, ↓get_put', ↓reduceIte, seval]
    | (with_reducible (first | apply cd_split | apply gd_split)) <;> (intro hc; (try simp only [hcn] at hc); (try simp only [hc]); (try simp only [hcl] at hc); try omega))
  refine Ok.lp (fun m t g => ∃ j : Nat, m = L.length - j ∧ h = g ∧ (∀ i, i < j → okE (L.getD i default) = true) ∧ j ≤ L.length ∧ get 0 t = v ∧ get 3 t = .i .i64 (j : Int)) L.length ?_ ?_
  · simp (disch := first | omega | (simp only [lnv]; omega)) only [wlk, ↓get_put', ↓reduceIte, seval]
    exact ⟨0, by omega, trivial, fun i hi => by omega, by omega, trivial, rfl⟩
  rintro I hI m t g ⟨j, rfl, rfl, hs, hj, f0, f3⟩
  repeat' (first
    | refine St.h ?_
    | simp (disch := first | omega | (simp only [lnv]; omega)) only [wlk, ↓get_put', ↓reduceIte, seval, f0, f3, hL.ln, hL.ix, hL.l0, hL.l3, Int.toNat_natCast]
    | (with_reducible (first | apply cd_split | apply gd_split)) <;> (intro hc; (try simp only [hcn] at hc); (try simp only [hc]); (try simp only [hcl] at hc); try omega))
  · have hb : okE (L.getD j default) = false := by unfold okE; rw [decide_eq_false (p := (L.getD j default).key.length ≤ 20) (by omega), Bool.false_and]
    subst hQ
    exact ⟨by unfold fewE; rw [all_at (by omega) hb]; rfl, rfl⟩
  · have hb : okE (L.getD j default) = false := by unfold okE; rw [decide_eq_false (p := (L.getD j default).val.length ≤ 40) (by omega), Bool.and_false]
    subst hQ
    exact ⟨by unfold fewE; rw [all_at (by omega) hb]; rfl, rfl⟩
  · have hb : okE (L.getD j default) = true := by unfold okE; rw [decide_eq_true (p := (L.getD j default).val.length ≤ 40) (by omega), decide_eq_true (p := (L.getD j default).key.length ≤ 20) (by omega)]; rfl
    refine lp_next hI (L.length - (j + 1)) (by omega) ⟨j + 1, rfl, rfl, fun i hi => ?_, by omega, ?_, ?_⟩
    · rcases Nat.lt_or_ge i j with h1 | h1
      · exact hs i h1
      · rw [show i = j by omega]; exact hb
    · simp (disch := first | omega | (simp only [lnv]; omega)) only [wlk, ↓get_put', ↓reduceIte, seval, f0]
    · simp (disch := first | omega | (simp only [lnv]; omega)) only [wlk, ↓get_put', ↓reduceIte, seval]; rfl
  · subst hQ
    obtain rfl : j = L.length := by omega
    refine ⟨?_, rfl⟩
    unfold fewE
    rw [all_ok hs, Bool.true_and]
    congr 2
    exact propext ⟨fun h => by omega, fun h => by omega⟩
end Go.Proofs.Ytnjgoggnhdpnoaa

set_option maxRecDepth 100000
set_option maxHeartbeats 8000000
set_option linter.all false
namespace Go.Proofs.Ytnjgoggnhdpnoaa
open Go Go.Ev
theorem sub_snoc {A L : List Ent} {i : Nat} (hi : i < L.length) (h : A.Sublist (L.take i)) : A.Sublist (L.take (i + 1)) ∧ (A ++ [L.getD i default]).Sublist (L.take (i + 1)) := by
  rw [take_ent hi]
  exact ⟨h.trans (List.sublist_append_left ..), h.append (List.Sublist.refl _)⟩
theorem mergeParts_ok {h : H} {v x : V} {L : List Ent} {T : List Bool} (hL : Es h v L) (hw : SwN 4 v) (hl : L.length ≤ 9223372036854775807) (hT : Bl h x T) (hl2 : T.length ≤ 9223372036854775807) (hf : B.val h.floor ≤ B.val h.next) : FnOk Try.prog 5 [v, x] h fun y h' => y = .b true := by
  refine fn_go c5 (by intro hb; cases hb) (by simp) (by simp) fun Q hQ => ?_
  simp only [slotsF, Nat.reduceAdd]
  repeat' (first
    | refine St.h ?_
    | simp (disch := first | omega | (simp only [lnv]; omega)) only [wlk, ↓get_put', ↓reduceIte, seval]
    | (with_reducible (first | apply cd_split | apply gd_split)) <;> (intro hc; (try simp only [hcn] at hc); (try simp only [hc]); (try simp only [hcl] at hc); try omega))
  refine CL.pure known11 ?_
  repeat' (first
    | refine St.h ?_
    | simp (disch := first | omega | (simp only [lnv]; omega)) only [wlk, ↓get_put', ↓reduceIte, seval]
    | (with_reducible (first | apply cd_split | apply gd_split)) <;> (intro hc; (try simp only [hcn] at hc); (try simp only [hc]); (try simp only [hcl] at hc); try omega))
  refine CL.pure (few11_ok hL hl) ?_
  cases hfl : fewE L with
  | false =>
    repeat' (first
      | refine St.h ?_
      | simp (disch := first | omega | (simp only [lnv]; omega)) only [wlk, ↓get_put', ↓reduceIte, seval]
      | (with_reducible (first | apply cd_split | apply gd_split)) <;> (intro hc; (try simp only [hcn] at hc); (try simp only [hc]); (try simp only [hcl] at hc); try omega))
    subst hQ; rfl
  | true =>
  obtain ⟨hl60, _⟩ := few_len hfl
  repeat' (first
    | refine St.h ?_
    | simp (disch := first | omega | (simp only [lnv]; omega)) only [wlk, ↓get_put', ↓reduceIte, seval, hT.ln]
    | (with_reducible (first | apply cd_split | apply gd_split)) <;> (intro hc; (try simp only [hcn] at hc); (try simp only [hc]); (try simp only [hcl] at hc); try omega))
  · subst hQ; rfl
  refine CL.stay (rsorted_ok hL (by omega) hf) fun h1 s1 => ?_
  have hf1 := s1.fl hf
  cases hs : sortedE L with
  | false =>
    repeat' (first
      | refine St.h ?_
      | simp (disch := first | omega | (simp only [lnv]; omega)) only [wlk, ↓get_put', ↓reduceIte, seval]
      | (with_reducible (first | apply cd_split | apply gd_split)) <;> (intro hc; (try simp only [hcn] at hc); (try simp only [hc]); (try simp only [hcl] at hc); try omega))
    subst hQ; rfl
  | true =>
  repeat' (first
    | refine St.h ?_
    | simp (disch := first | omega | (simp only [lnv]; omega)) only [wlk, ↓get_put', ↓reduceIte, seval]
    | (with_reducible (first | apply cd_split | apply gd_split)) <;> (intro hc; (try simp only [hcn] at hc); (try simp only [hc]); (try simp only [hcl] at hc); try omega))
  refine Ok.lp (fun m t g => ∃ (i : Nat) (a b : V) (A C : List Ent), m = L.length - i ∧ i ≤ L.length ∧ get 0 t = v ∧ get 1 t = x ∧ get 5 t = a ∧ get 6 t = b ∧ get 7 t = .i .i64 (i : Int) ∧ Stay nowhere h g ∧ Buf g 39 4 a (A.flatMap entC) ∧ (∀ q, isOf a q → B.val h.next ≤ B.val q) ∧ Buf g 39 4 b (C.flatMap entC) ∧ (∀ q, isOf b q → B.val h.next ≤ B.val q) ∧ (∀ q, isOf a q → ¬ isOf b q) ∧ A.Sublist (L.take i) ∧ C.Sublist (L.take i) ∧ ∀ e ∈ L.take i, e ∈ A ∨ e ∈ C) L.length ?_ ?_
  · simp (disch := first | omega | (simp only [lnv]; omega)) only [wlk, ↓get_put', ↓reduceIte, seval]
    refine ⟨0, .l0, .l0, [], [], by omega, by omega, ?_⟩
    refine ⟨?_, ?_, ?_, ?_, ?_, s1, Buf.nil _ _ _, ?_, Buf.nil _ _ _, ?_, ?_, List.nil_sublist _, List.nil_sublist _, fun e he => by simp at he⟩
    rotate_right 3
    · rintro i ⟨_, _, _, _, _, e⟩; cases e
    · rintro i ⟨_, _, _, _, _, e⟩; cases e
    · rintro i ⟨_, _, _, _, _, e⟩; cases e
    all_goals first | trivial | rfl
  rintro I hI m t g ⟨i, a, b, A, C, rfl, hi, f0, f1, f5, f6, f7, st, ba, oa, bb, ob, dis, sA, sC, hall⟩
  have hfg := st.fl hf
  have hLg := hL.grow st
  have lA := sA.length_le
  have lC := sC.length_le
  rw [List.length_take] at lA lC
  have fA := fm_len entC_len A
  have fC := fm_len entC_len C
  by_cases hil : i < L.length
  case pos =>
    have hin : ∀ e ∈ L.take (i + 1), e ∈ L.take i ∨ e = L.getD i default := fun e he => by
      rw [take_ent hil, List.mem_append, List.mem_singleton] at he; exact he
    obtain ⟨xA, yA⟩ := sub_snoc hil sA
    obtain ⟨xC, yC⟩ := sub_snoc hil sC
    have hcs : ∀ P : Prop, (P = ((2 = 3) = False)) → (((i : Int) < (T.length : Int)) = False ∧ P) ∨ (((i : Int) < (T.length : Int)) = True ∧ T.getD i false = false) ∨ (((i : Int) < (T.length : Int)) = True ∧ T.getD i false = true) := by
      intro P hP
      have hP : P := by rw [hP]; exact eq_false (by decide)
      by_cases h1 : i < T.length
      · cases h2 : T.getD i false with
        | false => exact .inr (.inl ⟨eq_true (by omega), rfl⟩)
        | true => exact .inr (.inr ⟨eq_true (by omega), rfl⟩)
      · exact .inl ⟨eq_false (by omega), hP⟩
    have hTg := hT.grow st
    rcases hcs _ rfl with ⟨d1, d2⟩ | ⟨d1, d2⟩ | ⟨d1, d2⟩
    rotate_right
    · have hit : i < T.length := by have := of_eq_true d1; omega
      repeat' (first
        | refine St.h ?_
        | simp (disch := first | omega | (simp only [lnv]; omega)) only [wlk, ↓get_put', ↓reduceIte, seval, f0, f1, f5, f6, f7, hL.ln, hT.ln, hT.ix, hTg.ld, hL.ix, hLg.la, d1, d2, Int.toNat_natCast]
        | (with_reducible (first | apply cd_split | apply gd_split)) <;> (intro hc; (try simp only [hcn] at hc); (try simp only [hc]); (try simp only [hcl] at hc); try omega))
      refine AL.own (by simp) hfg fun g4 t4 _ o4 => ?_
      have hfg4 := t4.fl hfg
      repeat' (first
        | refine St.h ?_
        | simp (disch := first | omega | (simp only [lnv]; omega)) only [wlk, ↓get_put', ↓reduceIte, seval, f0, f1, f5, f6, f7]
        | (with_reducible (first | apply cd_split | apply gd_split)) <;> (intro hc; (try simp only [hcn] at hc); (try simp only [hc]); (try simp only [hcl] at hc); try omega))
      refine AP.buf (vs := entC (L.getD i default)) (cnt := 1) (ba.grow t4) (new_row o4.row rfl (Nat.le_refl _) (by omega) (by show 4 ≤ 4; omega)) hfg4 (by omega) rfl rfl (by rw [fA, entC_len]; omega) fun u' g5 b5 t5 ho tp => ?_
      have s5 : Stay nowhere h g5 := (st.trans t4).past' t5 fun q hq => oa q hq
      have bb5 := (bb.grow t4).stay t5 fun q h1 h2 => dis q h2 h1
      repeat' (first
        | refine St.h ?_
        | simp (disch := first | omega | (simp only [lnv]; omega)) only [wlk, ↓get_put', ↓reduceIte, seval, f0, f1, f5, f6, f7]
        | (with_reducible (first | apply cd_split | apply gd_split)) <;> (intro hc; (try simp only [hcn] at hc); (try simp only [hc]); (try simp only [hcl] at hc); try omega))
      refine lp_next hI (L.length - (i + 1)) (by omega) ⟨i + 1, u', b, A ++ [L.getD i default], C, rfl, by omega, by simp (disch := first | omega | (simp only [lnv]; omega)) only [wlk, ↓get_put', ↓reduceIte, seval, f0], by simp (disch := first | omega | (simp only [lnv]; omega)) only [wlk, ↓get_put', ↓reduceIte, seval, f1], by simp (disch := first | omega | (simp only [lnv]; omega)) only [wlk, ↓get_put', ↓reduceIte, seval], by simp (disch := first | omega | (simp only [lnv]; omega)) only [wlk, ↓get_put', ↓reduceIte, seval, f6], by simp (disch := first | omega | (simp only [lnv]; omega)) only [wlk, ↓get_put', ↓reduceIte, seval, f7]; rfl, s5, by rw [List.flatMap_append]; simpa using b5, fun q hq => ?_, bb5, ob, fun q h1 h2 => ?_, yA, xC, fun e he => ?_⟩
      · rcases ho q hq with h1 | h1
        · exact oa q h1
        · have := st.next; have := t4.next; omega
      · rcases ho q h1 with h3 | h3
        · exact dis q h3 h2
        · have := (bb.grow t4).own h2; omega
      · rcases hin e he with h1 | h1
        · exact (hall e h1).imp_left fun h => List.mem_append_left _ h
        · exact .inl (by rw [h1]; simp)
    all_goals
      (try have hit : i < T.length := by have := of_eq_true d1; omega)
      repeat' (first
        | refine St.h ?_
        | simp (disch := first | omega | (simp only [lnv]; omega)) only [wlk, ↓get_put', ↓reduceIte, seval, f0, f1, f5, f6, f7, hL.ln, hT.ln, hT.ix, hTg.ld, hL.ix, hLg.la, d1, d2, Int.toNat_natCast]
        | (with_reducible (first | apply cd_split | apply gd_split)) <;> (intro hc; (try simp only [hcn] at hc); (try simp only [hc]); (try simp only [hcl] at hc); try omega))
      refine AL.own (by simp) hfg fun g4 t4 _ o4 => ?_
      have hfg4 := t4.fl hfg
      repeat' (first
        | refine St.h ?_
        | simp (disch := first | omega | (simp only [lnv]; omega)) only [wlk, ↓get_put', ↓reduceIte, seval, f0, f1, f5, f6, f7]
        | (with_reducible (first | apply cd_split | apply gd_split)) <;> (intro hc; (try simp only [hcn] at hc); (try simp only [hc]); (try simp only [hcl] at hc); try omega))
      refine AP.buf (vs := entC (L.getD i default)) (cnt := 1) (bb.grow t4) (new_row o4.row rfl (Nat.le_refl _) (by omega) (by show 4 ≤ 4; omega)) hfg4 (by omega) rfl rfl (by rw [fC, entC_len]; omega) fun u' g5 b5 t5 ho tp => ?_
      have s5 : Stay nowhere h g5 := (st.trans t4).past' t5 fun q hq => ob q hq
      have ba5 := (ba.grow t4).stay t5 fun q h1 h2 => dis q h1 h2
      repeat' (first
        | refine St.h ?_
        | simp (disch := first | omega | (simp only [lnv]; omega)) only [wlk, ↓get_put', ↓reduceIte, seval, f0, f1, f5, f6, f7]
        | (with_reducible (first | apply cd_split | apply gd_split)) <;> (intro hc; (try simp only [hcn] at hc); (try simp only [hc]); (try simp only [hcl] at hc); try omega))
      refine lp_next hI (L.length - (i + 1)) (by omega) ⟨i + 1, a, u', A, C ++ [L.getD i default], rfl, by omega, by simp (disch := first | omega | (simp only [lnv]; omega)) only [wlk, ↓get_put', ↓reduceIte, seval, f0], by simp (disch := first | omega | (simp only [lnv]; omega)) only [wlk, ↓get_put', ↓reduceIte, seval, f1], by simp (disch := first | omega | (simp only [lnv]; omega)) only [wlk, ↓get_put', ↓reduceIte, seval, f5], by simp (disch := first | omega | (simp only [lnv]; omega)) only [wlk, ↓get_put', ↓reduceIte, seval], by simp (disch := first | omega | (simp only [lnv]; omega)) only [wlk, ↓get_put', ↓reduceIte, seval, f7]; rfl, s5, ba5, oa, by rw [List.flatMap_append]; simpa using b5, fun q hq => ?_, fun q h1 h2 => ?_, xA, yC, fun e he => ?_⟩
      · rcases ho q hq with h1 | h1
        · exact ob q h1
        · have := st.next; have := t4.next; omega
      · rcases ho q h2 with h3 | h3
        · exact dis q h1 h3
        · have := (ba.grow t4).own h1; omega
      · rcases hin e he with h1 | h1
        · exact (hall e h1).imp_right fun h => List.mem_append_left _ h
        · exact .inr (by rw [h1]; simp)
  obtain rfl : i = L.length := by omega
  rw [List.take_length] at sA sC hall
  have sortA := sub_sorted sA hs
  have sortC := sub_sorted sC hs
  have eA : Es g a A := Ss.buf ba rfl entC_len (by omega)
  have eC : Es g b C := Ss.buf bb rfl entC_len (by omega)
  have wA := swn_bufE ba
  have wC := swn_bufE bb
  have r1 : rowsE [A, C] = (L, true) := by
    rw [rowsE_ok (by simp [sortA, sortC])]
    rw [addsE_row hs (fun e he => ?_) (fun e he => ?_)]
    · simp only [List.flatten_cons, List.flatten_nil, List.append_nil, List.mem_append] at he
      rcases he with h | h
      · exact sA.subset h
      · exact sC.subset h
    · simp only [List.flatten_cons, List.flatten_nil, List.append_nil, List.mem_append]
      exact hall e he
  have r2 : rowsE [L, A, L] = (L, true) := by
    rw [rowsE_ok (by simp [sortA, hs])]
    rw [addsE_row hs (fun e he => ?_) (fun e he => ?_)]
    · simp only [List.flatten_cons, List.flatten_nil, List.append_nil, List.mem_append] at he
      rcases he with h | h | h
      · exact h
      · exact sA.subset h
      · exact h
    · simp only [List.flatten_cons, List.flatten_nil, List.append_nil, List.mem_append]
      exact .inl he
  have x1 : errR [A, C] = 0 := by unfold errR; rw [r1]; rfl
  have x2 : errR [L, A, L] = 0 := by unfold errR; rw [r2]; rfl
  repeat' (first
    | refine St.h ?_
    | simp (disch := first | omega | (simp only [lnv]; omega)) only [wlk, ↓get_put', ↓reduceIte, seval, f0, f5, f6, f7, hL.ln, fp_sw wA, fp_sw wC]
    | (with_reducible (first | apply cd_split | apply gd_split)) <;> (intro hc; (try simp only [hcn] at hc); (try simp only [hc]); (try simp only [hcl] at hc); try omega))
  refine AL.own (by simp) hfg fun g2 t2 _ o2 => ?_
  have hfg2 := t2.fl hfg
  have B2 : Bls g2 (.l g.next 0 0 2 2 (some 2)) [A, C] [⟨a, A⟩, ⟨b, C⟩] := ⟨Ss.lit o2 rfl bkC_len rfl (by simp), rfl, fun k hk => by
    simp only [List.mem_cons, List.mem_singleton, List.not_mem_nil, or_false] at hk
    rcases hk with rfl | rfl
    · exact eA.grow t2
    · exact eC.grow t2⟩
  repeat' (first
    | refine St.h ?_
    | simp (disch := first | omega | (simp only [lnv]; omega)) only [wlk, ↓get_put', ↓reduceIte, seval, f0, f5, f6, f7]
    | (with_reducible (first | apply cd_split | apply gd_split)) <;> (intro hc; (try simp only [hcn] at hc); (try simp only [hc]); (try simp only [hcl] at hc); try omega))
  refine CL.mk (mrows_ok B2 (.inr ⟨_, _, _, _, _, _, rfl, by simp⟩) (by simp) (by simp; omega) hfg2) ?_
  rintro _ g3 ⟨w3, rfl, e3, _, t3⟩
  rw [r1] at e3
  rw [x1]
  have hfg3 := t3.fl hfg2
  have e3 : Es g3 w3 L := e3
  repeat' (first
    | refine St.h ?_
    | simp (disch := first | omega | (simp only [lnv]; omega)) only [wlk, ↓get_put', ↓reduceIte, seval, f0, f5, fp_sw wA, fp_sw hw]
    | (with_reducible (first | apply cd_split | apply gd_split)) <;> (intro hc; (try simp only [hcn] at hc); (try simp only [hc]); (try simp only [hcl] at hc); try omega))
  refine AL.own (by simp) hfg3 fun g4 t4 _ o4 => ?_
  have hfg4 := t4.fl hfg3
  have s24 := (t2.trans t3).trans t4
  have hL4 := hLg.grow s24
  have B4 : Bls g4 (.l g3.next 0 0 3 3 (some 3)) [L, A, L] [⟨v, L⟩, ⟨a, A⟩, ⟨v, L⟩] := ⟨Ss.lit o4 rfl bkC_len rfl (by simp), rfl, fun k hk => by
    simp only [List.mem_cons, List.mem_singleton, List.not_mem_nil, or_false] at hk
    rcases hk with rfl | rfl | rfl
    · exact hL4
    · exact eA.grow s24
    · exact hL4⟩
  repeat' (first
    | refine St.h ?_
    | simp (disch := first | omega | (simp only [lnv]; omega)) only [wlk, ↓get_put', ↓reduceIte, seval, f0, f5]
    | (with_reducible (first | apply cd_split | apply gd_split)) <;> (intro hc; (try simp only [hcn] at hc); (try simp only [hc]); (try simp only [hcl] at hc); try omega))
  refine CL.mk (mrows_ok B4 (.inr ⟨_, _, _, _, _, _, rfl, by simp⟩) (by simp) (by simp; omega) hfg4) ?_
  rintro _ g5 ⟨w5, rfl, e5, _, t5⟩
  rw [r2] at e5
  rw [x2]
  have e5 : Es g5 w5 L := e5
  have hd4 : (L = L) = True := eq_true rfl
  repeat' (first
    | refine St.h ?_
    | simp (disch := first | omega | (simp only [lnv]; omega)) only [wlk, ↓get_put', ↓reduceIte, seval, f0]
    | (with_reducible (first | apply cd_split | apply gd_split)) <;> (intro hc; (try simp only [hcn] at hc); (try simp only [hc]); (try simp only [hcl] at hc); try omega))
  refine CL.pure (rsame_ok ((e3.grow t4).grow t5) (hL4.grow t5) (by omega)) ?_
  repeat' (first
    | refine St.h ?_
    | simp (disch := first | omega | (simp only [lnv]; omega)) only [wlk, ↓get_put', ↓reduceIte, seval, f0, hd4]
    | (with_reducible (first | apply cd_split | apply gd_split)) <;> (intro hc; (try simp only [hcn] at hc); (try simp only [hc]); (try simp only [hcl] at hc); try omega))
  refine CL.pure (rsame_ok e5 (hL4.grow t5) (by omega)) ?_
  repeat' (first
    | refine St.h ?_
    | simp (disch := first | omega | (simp only [lnv]; omega)) only [wlk, ↓get_put', ↓reduceIte, seval, hd4]
    | (with_reducible (first | apply cd_split | apply gd_split)) <;> (intro hc; (try simp only [hcn] at hc); (try simp only [hc]); (try simp only [hcl] at hc); try omega))
  subst hQ; rfl
end Go.Proofs.Ytnjgoggnhdpnoaa

set_option linter.all false
namespace Go.Proofs.Ytnjgoggnhdpnoaa
open Go Go.Ev
def hE (D : Nat → Bool) (i : Nat) : Ent := ⟨[107], (i : Int), D i, []⟩
section
variable {D w : Nat → Bool} {k : Nat}
/-- the array behind the third loop, stopped at i -/
def f4 (w : Nat → Bool) (i j : Nat) : Bool := decide (i ≤ j) && w j
end
end Go.Proofs.Ytnjgoggnhdpnoaa

set_option linter.all false
namespace Go.Ev
open Go Go.RowKit Go.WideShapes Go.ChangeShapes Go.ChangeAt Go.Deep
section
variable {H' : Type} {enc : TypeId × Value → H'} {P : Program}
theorem flat_of {W : World} {t : TypeId} {fs : Array Field} {fuel : Nat} {cs : List Value} {x : DataW H' × List MemPlace} (ut : P.underlying t = some (.struct fs)) (hd : DataW.trod enc P W 0 (fun _ => true) true fuel t cs = some x) :
    cs.length = P.cellsOf t ∧ ∀ (i : Nat) f, fs.toList[i]? = some f → ∃ n y, DataW.trod enc P W 0 (fun _ => true) true n f.type ((cs.drop f.offset).take (P.cellsOf f.type)) = some y := by
  cases fuel with
  | zero => simp [DataW.trod] at hd
  | succ n =>
    unfold DataW.trod at hd
    rw [ut] at hd
    simp only at hd
    split at hd
    · rename_i hl
      refine ⟨hl, fun i f hf => ?_⟩
      rw [Option.map_eq_some_iff] at hd
      obtain ⟨xs, hx, _⟩ := hd
      have := mapM_some_get hx i f hf
      have hlen := mapM_some_length hx
      have hi : i < xs.length := by rw [hlen]; exact (List.getElem?_eq_some_iff.1 hf).1
      exact ⟨n, xs[i], by rw [this]; simp⟩
    · cases hd
structure EntF (P : Program) (t : TypeId) (fs : Array Field) : Prop where
  ut : P.underlying t = some (.struct fs)
  sz : P.cellsOf t = 4
  f0 : ∃ f, fs.toList[0]? = some f ∧ f.offset = 0 ∧ P.cellsOf f.type = 1 ∧ P.underlying f.type = some .string
  f1 : ∃ f, fs.toList[1]? = some f ∧ f.offset = 1 ∧ P.cellsOf f.type = 1 ∧ P.underlying f.type = some (.int .i64)
  f2 : ∃ f, fs.toList[2]? = some f ∧ f.offset = 2 ∧ P.cellsOf f.type = 1 ∧ P.underlying f.type = some .bool
  f3 : ∃ f, fs.toList[3]? = some f ∧ f.offset = 3 ∧ P.cellsOf f.type = 1 ∧ P.underlying f.type = some .string
/-- an entry's cells -/
def entV (k : ByteArray) (n : Int) (d : Bool) (v : ByteArray) : List Value := [.string k, .int .i64 n, .bool d, .string v]
theorem ent_cells {W : World} {t : TypeId} {fs : Array Field} {fuel : Nat} {cs : List Value} {x : DataW H' × List MemPlace} (F : EntF P t fs) (hd : DataW.trod enc P W 0 (fun _ => true) true fuel t cs = some x) :
    ∃ k n d v, cs = entV k n d v ∧ k.size ≤ maxLen ∧ v.size ≤ maxLen ∧ (Lit.int .i64 n).wf = true := by
  obtain ⟨hl, hf⟩ := flat_of F.ut hd
  rw [F.sz] at hl
  obtain ⟨f0, g0, o0, c0, u0⟩ := F.f0
  obtain ⟨f1, g1, o1, c1, u1⟩ := F.f1
  obtain ⟨f2, g2, o2, c2, u2⟩ := F.f2
  obtain ⟨f3, g3, o3, c3, u3⟩ := F.f3
  match cs, hl with
  | [a, b, c, d], _ =>
    obtain ⟨_, _, h0⟩ := hf 0 f0 g0
    obtain ⟨_, _, h1⟩ := hf 1 f1 g1
    obtain ⟨_, _, h2⟩ := hf 2 f2 g2
    obtain ⟨_, _, h3⟩ := hf 3 f3 g3
    rw [o0, c0] at h0
    rw [o1, c1] at h1
    rw [o2, c2] at h2
    rw [o3, c3] at h3
    obtain ⟨k, e0, _, z0⟩ := DataW.trod_string u0 h0
    obtain ⟨n, e1, _, z1⟩ := DataW.trod_int u1 h1
    obtain ⟨q, e2, _⟩ := DataW.trod_bool u2 h2
    obtain ⟨v, e3, _, z3⟩ := DataW.trod_string u3 h3
    simp at e0 e1 e2 e3
    exact ⟨k, n, q, v, by rw [e0, e1, e2, e3]; rfl, z0, z3, z1⟩
/-- a row of entries -/
theorem es_of {W : World} {h : H} (s : Start W h) (h0 : 0 < W.heap.size) {t e : TypeId} {fs : Array Field} {fuel : Nat} {cs : List Value} {x : DataW H' × List MemPlace} (ht : P.underlying t = some (.slice e)) (F : EntF P e fs)
    (hd : DataW.trod enc P W 0 (fun _ => true) true fuel t cs = some x) : ∃ sv L, cs = [sv] ∧ Es h (absV W sv) L ∧ L.length ≤ 9223372036854775807 ∧ ∀ e ∈ L, (e.key.length ≤ 9223372036854775807 ∧ e.val.length ≤ 9223372036854775807) ∧ -9223372036854775808 ≤ e.seq ∧ e.seq ≤ 9223372036854775807 := by
  rcases open_slice ht hd with ⟨rfl, _⟩ | ⟨a, len, cap, m, n, D, Pl, rfl, hb, hl, hm, hmm, _, hx⟩
  · exact ⟨_, [], rfl, .inl ⟨rfl, rfl⟩, by simp, fun e he => by cases he⟩
  simp only [if_true] at hmm
  rw [F.sz] at hx
  have hx' : ∀ i, i < len → ∃ k n q u, (∀ d y, (entV k n q u)[d]? = some y → W.cell? ⟨a.block, a.off + i * 4 + d, none⟩ = some y) ∧ (0 < len → a.spot = none) ∧ k.size ≤ maxLen ∧ u.size ≤ maxLen ∧ (Lit.int .i64 n).wf = true := by
    intro i hi
    obtain ⟨cs', h1, h2⟩ := hx i (by omega)
    obtain ⟨k, n, q, u, rfl, z1, z2, z3⟩ := ent_cells F h2
    obtain ⟨_, _, h3⟩ := World.cells?_some h1
    refine ⟨k, n, q, u, fun d y hy => ?_, fun _ => ?_, z1, z2, z3⟩
    · have hd : d < 4 := by have := (List.getElem?_eq_some_iff.1 hy).1; exact this
      have h4 := h3 d hd
      rw [hy] at h4
      have h5 := cell_add h4
      have e1 : (a.add (i * 4)).block = a.block := by unfold Addr.add; split <;> rfl
      have e2 : (a.add (i * 4)).off = a.off + i * 4 := by
        unfold Addr.add; split
        · rename_i hz; rw [hz]; rfl
        · rfl
      rw [e1, e2] at h5
      exact h5
    · have hlen : 0 < len := by omega
      obtain ⟨cs0, g1, g2⟩ := hx 0 (by omega)
      obtain ⟨k0, n0, q0, u0, rfl, _⟩ := ent_cells F g2
      obtain ⟨_, _, g3⟩ := World.cells?_some g1
      have g4 := g3 0 (by omega)
      have g5 := World.cell?_spot g4
      unfold Addr.add at g5
      simpa using g5
  obtain ⟨E, hE⟩ := choose_lt (α := ByteArray × Int × Bool × ByteArray) (p := fun i r => (∀ d y, (entV r.1 r.2.1 r.2.2.1 r.2.2.2)[d]? = some y → W.cell? ⟨a.block, a.off + i * 4 + d, none⟩ = some y) ∧ (0 < len → a.spot = none) ∧ r.1.size ≤ maxLen ∧ r.2.2.2.size ≤ maxLen ∧ (Lit.int .i64 r.2.1).wf = true) (fun i hi => by
    obtain ⟨k, n, q, u, h⟩ := hx' i hi
    exact ⟨(k, n, q, u), h⟩)
  let G : Nat → Ent := fun i => ⟨(E i).1.data.toList, (E i).2.1, (E i).2.2.1, (E i).2.2.2.data.toList⟩
  have hL : ((List.range len).map G).length = len := by simp
  refine ⟨_, (List.range len).map G, rfl, ?_, by rw [hL]; exact maxLen_le (by omega), fun e he => ?_⟩
  · obtain ⟨b, off, spot⟩ := a
    cases len with
    | zero =>
      have e : absV W (.slice (some ⟨b, off, spot⟩) 0 cap) = .l (nb 0) 0 0 0 0 none := by unfold absV; simp only [if_pos h0]
      rw [e]
      exact .inr ⟨nb 0, 0, 0, 0, none, rfl, by simp, (s.blk 0 h0).1, fun hne => absurd rfl hne, fun i v hv => by simp at hv⟩
    | succ n =>
      have hs' : spot = none := (hE 0 (by omega)).2.1 (by omega)
      subst hs'
      have hcell : ∀ i, i < n + 1 → ∀ d y, (entV (E i).1 (E i).2.1 (E i).2.2.1 (E i).2.2.2)[d]? = some y → b < W.heap.size ∧ off + i * 4 + d < csz W b ∧ (∃ blk, h.heap.get (nb b) = some blk ∧ blk.min ≤ 0) ∧ Ev.cell h (nb b) 0 (off + i * 4 + d) = some (absV W y) :=
        fun i hi d y hy => s.cell ((hE i hi).1 d y hy)
      obtain ⟨d1, d2, d3, d4⟩ := hcell n (by omega) 3 _ rfl
      have e : absV W (.slice (some ⟨b, off, none⟩) (n + 1) cap) = .l (nb b) 0 off (n + 1) (csz W b) (some cap) := by unfold absV; simp only [if_pos (⟨d1, hl, Nat.lt_of_le_of_lt hm maxLen_lt⟩ : b < W.heap.size ∧ n + 1 ≤ cap ∧ cap < 18446744073709551616)]
      rw [e]
      refine .inr ⟨nb b, 0, off, csz W b, some cap, by rw [hL], by rw [hL]; omega, (s.blk b d1).1, fun _ => d3, fun j v hv => ?_⟩
      have hj : j < (((List.range (n + 1)).map G).flatMap entC).length := (List.getElem?_eq_some_iff.1 hv).1
      rw [fm_len entC_len, hL] at hj
      obtain ⟨i, d, rfl, hd⟩ : ∃ i d, j = i * 4 + d ∧ d < 4 := ⟨j / 4, j % 4, by omega, by omega⟩
      have hi : i < n + 1 := by omega
      rw [fm_get entC_len (by rw [hL]; exact hi) hd] at hv
      have hG : ((List.range (n + 1)).map G).getD i default = G i := by simp [List.getD, hi]
      rw [hG] at hv
      rw [← Nat.add_assoc]
      match d, hd with
      | 0, _ => have := (hcell i hi 0 _ rfl).2.2.2; rw [this, absV_str]; exact hv
      | 1, _ => exact (hcell i hi 1 _ rfl).2.2.2.trans hv
      | 2, _ => exact (hcell i hi 2 _ rfl).2.2.2.trans hv
      | 3, _ => have := (hcell i hi 3 _ rfl).2.2.2; rw [this, absV_str]; exact hv
  · obtain ⟨i, hi, rfl⟩ := List.mem_map.1 he
    rw [List.mem_range] at hi
    obtain ⟨_, _, z1, z2, z3⟩ := hE i hi
    exact ⟨⟨str_len z1, str_len z2⟩, wf_i64 z3⟩
theorem swn_abs {W : World} {h : H} {x : Value} {L : List Ent} (a : Es h (absV W x) L) : SwN 4 (absV W x) := by
  have nol : ∀ v : V, Es h v L → v ≠ .u := by
    rintro _ (⟨rfl, _⟩ | ⟨id, g, off, fin, cap, rfl, _⟩) <;> intro e <;> cases e
  have np : ∀ id g off fin, ¬ Es h (.p id g off fin) L := by
    rintro id g off fin (⟨e, _⟩ | ⟨_, _, _, _, _, e, _⟩) <;> cases e
  revert a
  unfold absV
  split
  all_goals intro a
  all_goals first
    | exact .inl rfl
    | (exfalso; rcases a with ⟨e, _⟩ | ⟨_, _, _, _, _, e, _⟩ <;> cases e; done)
    | skip
  · split at a
    · exact absurd a (np _ _ _ _)
    · exact absurd rfl (nol _ a)
  · rename_i hh
    split at a
    · rename_i hb
      rw [if_pos hb]
      exact .inr ⟨_, _, _, _, _, _, rfl, hb.2.1, fun h => absurd hb.2.2 (Nat.not_lt.2 h)⟩
    · exact absurd rfl (nol _ a)
  · split at a
    · rename_i hb
      rw [if_pos hb]
      exact .inr ⟨_, _, _, _, _, _, rfl, rfl⟩
    · exact absurd rfl (nol _ a)
structure WriF (P : Program) (t : TypeId) (fs : Array Field) : Prop where
  ut : P.underlying t = some (.struct fs)
  sz : P.cellsOf t = 3
  f0 : ∃ f, fs.toList[0]? = some f ∧ f.offset = 0 ∧ P.cellsOf f.type = 1 ∧ P.underlying f.type = some .string
  f1 : ∃ f, fs.toList[1]? = some f ∧ f.offset = 1 ∧ P.cellsOf f.type = 1 ∧ P.underlying f.type = some .bool
  f2 : ∃ f, fs.toList[2]? = some f ∧ f.offset = 2 ∧ P.cellsOf f.type = 1 ∧ P.underlying f.type = some .string
end
end Go.Ev

set_option linter.all false
namespace Go.Ev
open Go Go.RowKit Go.WideShapes Go.ChangeShapes Go.ChangeAt Go.Deep
section
variable {H' : Type} {enc : TypeId × Value → H'} {P : Program}
inductive Kd where
  | i (k : IntKind)
  | s
  | b
def Kd.ok (P : Program) (k : Kd) (t : TypeId) : Prop := match k with
  | .i k => P.underlying t = some (.int k)
  | .s => P.underlying t = some .string
  | .b => P.underlying t = some .bool
def FldOk (P : Program) (l : List Field) : Nat → List Kd → Prop
  | _, [] => True
  | n, k :: ks => (∃ f, l[n]? = some f ∧ f.offset = n ∧ P.cellsOf f.type = 1 ∧ k.ok P f.type) ∧ FldOk P l (n + 1) ks
/-- a struct whose fields are numbers, texts, bools -/
structure FlatF (P : Program) (t : TypeId) (fs : Array Field) (ks : List Kd) : Prop where
  ut : P.underlying t = some (.struct fs)
  sz : P.cellsOf t = ks.length
  fld : FldOk P fs.toList 0 ks
end
end Go.Ev

set_option linter.all false
namespace Go.Proofs.Ytnjgoggnhdpnoaa
open Go Go.Ev
theorem mergeParts_l {h : H} {v x : V} {L : List Ent} {T : List Bool} (hw : SwN 4 v) (hL : Es h v L) (hl : L.length ≤ 9223372036854775807) (hT : Bl h x T) (hl2 : T.length ≤ 9223372036854775807) (hf : B.val h.floor ≤ B.val h.next) : FnOk Try.prog 5 [v, x] h fun y h' => y = .b true := mergeParts_ok hL hw hl hT hl2 hf
end Go.Proofs.Ytnjgoggnhdpnoaa

namespace Go.Proofs.Ytnjgoggnhdpnoaa.mergeParts
open Go Go.Ev Go.ChangeShapes Go.WideShapes Go.ChangeAt Go.RowKit Go.ChangeMaps
set_option linter.all false
theorem own : ownKnob Try.prog.godebug = none := by kernel_rfl
theorem laid : laidOutB Try.prog = true := by kernel_rfl
theorem heap_pos {W : World} (h : W.ShapedOpen Try.prog) : 0 < W.heap.size := by
  obtain ⟨o, _, h1, _⟩ := h.2 0 (of_decide_eq_true (by kernel_rfl)) (of_decide_eq_true (by kernel_rfl))
  exact (Array.getElem?_eq_some_iff.1 h1).1
set_option maxRecDepth 100000 in
theorem isEntF : ∃ fs, EntF Try.prog 39 fs := ⟨_, (EntF.mk Try.underlying39 (by kernel_rfl) ⟨_, rfl, rfl, by kernel_rfl, Try.underlying9⟩ ⟨_, rfl, rfl, by kernel_rfl, Try.underlying3⟩ ⟨_, rfl, rfl, by kernel_rfl, Try.underlying4⟩ ⟨_, rfl, rfl, by kernel_rfl, Try.underlying9⟩)⟩
set_option maxRecDepth 100000 in
theorem run {H : Type} {enc : TypeId × Value → H} (W : World) (base : Nat) (args : Array Value) (ds : List (DataW H)) (p : List MemPlace) (hval : ∀ (j : Nat) t v, Try.f5.params[j]? = some t → args[j]? = some v → Value.okWide Try.prog W .any base t v) (hopen : W.ShapedOpen Try.prog)
    (hA : DataW.TrodAll enc Try.prog W 0 (fun _ => true) true Try.f5.params.toList args.toList ds p) : Calls Try.prog 5 args W fun e w' => e = .returned (.bool true) ∧ Below W.heap.size W w' := by
  rw [Try.params5] at hA hval
  obtain ⟨fsEntF, eF⟩ := isEntF
  obtain ⟨v0, vs0, d0, ds0, p0, q0, hargs, rfl, rfl, h0, r0⟩ := trodAll_cons hA
  obtain ⟨v1, vs1, d1, ds1, p1, q1, rfl, rfl, rfl, h1, r1⟩ := trodAll_cons r0
  obtain ⟨rfl, rfl, rfl⟩ := trodAll_nil r1
  obtain rfl : args = #[v0, v1] := by cases args; simp_all
  obtain ⟨h, s1, s2⟩ := Go.Ev.start W
  have s : Go.Ev.Start W h := ⟨s1, s2⟩
  obtain ⟨x0, y0, z0, rfl⟩ := okWide_slice Try.underlying23 (hval 0 23 v0 rfl rfl)
  obtain ⟨fu0, hfu0⟩ := h0
  obtain ⟨u0, L0, e0, m0, l0, k0⟩ := es_of s (heap_pos hopen) Try.underlying23 eF hfu0
  obtain rfl := (List.cons.inj (show [Value.slice x0 y0 z0] = [u0] from e0)).1
  obtain ⟨x1, y1, z1, rfl⟩ := okWide_slice Try.underlying43 (hval 1 43 v1 rfl rfl)
  obtain ⟨fu1, hfu1⟩ := h1
  obtain ⟨u1, L1, e1, m1, l1⟩ := bl_of s (heap_pos hopen) Try.underlying43 (by kernel_rfl) Try.underlying4 hfu1
  obtain rfl := (List.cons.inj (show [Value.slice x1 y1 z1] = [u1] from e1)).1
  exact calls_true s (vs := [absV W (.slice x0 y0 z0), absV W (.slice x1 y1 z1)]) ⟨absV_rel W _, absV_rel W _, trivial⟩ (mergeParts_l (swn_abs m0) m0 l0 m1 (maxLen_le l1) s1.flo)
set_option maxRecDepth 100000 in
theorem lifted (os : Os) (started : os.Started) (H : Type) (enc : TypeId × Value → H) :
    ReturnsInHanded {} Try.checked os 5 .any (Rows.mergePartsSpec.pre6 enc Try.prog Try.f5 Rows.mergePartsRow.domain false) (Rows.mergePartsSpec.post enc Try.prog Try.f5 false true false false) :=
  law_lifted (C := Try.checked) own started (by kernel_rfl) Try.func5
    (ChangeSpec.witness6 (enc := enc) (C := Try.checked) false ⟨#[], #[.slice none 0 0, .slice none 0 0], []⟩ 8 (by kernel_rfl) (by kernel_rfl) (by kernel_rfl) (by kernel_rfl))
    rfl (fun ds hd => by rw [Try.params5] at hd; match ds, hd with | [d1, d2], _ => rfl) laid (by kernel_rfl) (by kernel_rfl) Try.underlying4 (fun W base args ds p hv ho hA => run W base args ds p hv ho hA)
theorem over : Rows.mergePartsRow.holds Try.pinned (OpenSpec.ofChange Rows.mergePartsSpec) :=
  OpenClaim.holds_of_wide 5 Try.f5 rfl rfl rfl rfl rfl rfl rfl ⟨rfl, rfl, rfl, rfl, rfl⟩ rfl rfl rfl rfl rfl (by kernel_rfl) Try.func5 (by kernel_rfl)
    (of_decide_eq_true (by kernel_rfl)) (by unfold Func.isWrapper; first | (rw [if_pos (by decide +kernel)]; kernel_rfl) | (rw [if_neg (by decide +kernel)]; exact ⟨rfl, rfl⟩))
    (fun os started H enc _ => lifted os started H enc)
/-- THE STATEMENT -/
theorem proved : Rows.MergePartsSaid :=
  over
end Go.Proofs.Ytnjgoggnhdpnoaa.mergeParts
