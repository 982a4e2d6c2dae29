/- Entries: the mathematics alone. No condition. -/
import Derived.Test.YtkfliakkopidmaaCellM
import Derived.Test.YtkfliakkopidmaaWg
set_option linter.all false
namespace Go.Ev
open Go

structure Ent where
  key : List UInt8
  seq : Int
  del : Bool
  val : List UInt8
deriving DecidableEq
def entZ : Ent := ⟨[], 0, false, []⟩
instance : Inhabited Ent := ⟨entZ⟩
def entC (e : Ent) : List V := [sv e.key, .i .i64 e.seq, .b e.del, sv e.val]
theorem entC_len (e : Ent) : (entC e).length = 4 := rfl
def Es (h : H) (v : V) (L : List Ent) : Prop := Ss 4 entC h v L
section
variable {P : Program} {h h' g' : H} {N : Nx} {v : V} {L : List Ent} {i d : Nat}
theorem Es.ln (a : Es h v L) : H1 P gLen v g' N = N.go P (.i .i64 (L.length : Int)) g' := Ss.ln a
theorem Es.ix (a : Es h v L) (hi : i < L.length) : IX P 4 v i g' N = N.go P (.p (lid v) (lg v) (loff v + i * 4) (lfin v)) g' := Ss.ix a hi
theorem Es.l0 (a : Es h v L) (hi : i < L.length) : L1 P (lid v) (lg v) (loff v + i * 4) (lfin v) h N = N.go P (sv (L.getD i default).key) h := Ss.ld (d := 0) a entC_len hi (by omega)
theorem Es.l1 (a : Es h v L) (hi : i < L.length) : L1 P (lid v) (lg v) (loff v + i * 4 + 1) (lfin v) h N = N.go P (.i .i64 (L.getD i default).seq) h := Ss.ld (d := 1) a entC_len hi (by omega)
theorem Es.l2 (a : Es h v L) (hi : i < L.length) : L1 P (lid v) (lg v) (loff v + i * 4 + 2) (lfin v) h N = N.go P (.b (L.getD i default).del) h := Ss.ld (d := 2) a entC_len hi (by omega)
theorem Es.l3 (a : Es h v L) (hi : i < L.length) : L1 P (lid v) (lg v) (loff v + i * 4 + 3) (lfin v) h N = N.go P (sv (L.getD i default).val) h := Ss.ld (d := 3) a entC_len hi (by omega)
theorem Es.la (a : Es h v L) (hi : i < L.length) : LN P (lid v) (lg v) (loff v + i * 4) (lfin v) 4 h N = N.go P (.a [sv (L.getD i default).key, .i .i64 (L.getD i default).seq, .b (L.getD i default).del, sv (L.getD i default).val]) h := Ss.ldA a entC_len (by omega) hi
theorem Es.grow (a : Es h v L) (s : Stay nowhere h h') : Es h' v L := Ss.grow a s
end
/-- of a write -/
def isW (key : List UInt8) (del : Bool) (val : List UInt8) : Bool := decide (1 ≤ key.length ∧ key.length ≤ 13 ∧ val.length ≤ 24 ∧ (del = true → val = []))
def isE (e : Ent) : Bool := decide (1 ≤ e.seq ∧ e.seq ≤ 1000000) && isW e.key e.del e.val
theorem isE_iff {e : Ent} : isE e = true ↔ (1 ≤ e.seq ∧ e.seq ≤ 1000000) ∧ 1 ≤ e.key.length ∧ e.key.length ≤ 13 ∧ e.val.length ≤ 24 ∧ (e.del = true → e.val = []) := by
  unfold isE isW; rw [Bool.and_eq_true, decide_eq_true_eq, decide_eq_true_eq]
theorem isE_in {e : Ent} (h1 : 1 ≤ e.seq) (h2 : e.seq ≤ 1000000) : isE e = isW e.key e.del e.val := by unfold isE; rw [decide_eq_true ⟨h1, h2⟩, Bool.true_and]
theorem isE_lo {e : Ent} (h1 : e.seq < 1) : isE e = false := by unfold isE; rw [decide_eq_false (by omega), Bool.false_and]
theorem isE_hi {e : Ent} (h1 : 1000000 < e.seq) : isE e = false := by unfold isE; rw [decide_eq_false (by omega), Bool.false_and]
section
variable {k v : List UInt8} {d : Bool}
theorem isW_lo (h : (k.length : Int) < 1) : isW k d v = false := by unfold isW; rw [decide_eq_false_iff_not]; rintro ⟨a, _⟩; omega
theorem isW_hi (h : 13 < (k.length : Int)) : isW k d v = false := by unfold isW; rw [decide_eq_false_iff_not]; rintro ⟨_, a, _⟩; omega
theorem isW_big (h : 24 < (v.length : Int)) : isW k d v = false := by unfold isW; rw [decide_eq_false_iff_not]; rintro ⟨_, _, a, _⟩; omega
theorem isW_t (h1 : 1 ≤ (k.length : Int)) (h2 : (k.length : Int) ≤ 13) (hd : d = true) : isW k d v = decide (v = []) := by
  subst hd; unfold isW; congr 1
  refine propext ⟨fun h => h.2.2.2 rfl, fun e => ?_⟩
  subst e; exact ⟨by omega, by omega, by simp, fun _ => rfl⟩
theorem isW_f (h1 : 1 ≤ (k.length : Int)) (h2 : (k.length : Int) ≤ 13) (hd : d = false) : isW k d v = decide ((v.length : Int) ≤ 24) := by
  subst hd; unfold isW; congr 1
  exact propext ⟨fun h => by omega, fun e => ⟨by omega, by omega, by omega, fun h => by cases h⟩⟩
end
def lessE (a b : Ent) : Bool := if a.key = b.key then decide (b.seq < a.seq) else Op.bytesLess a.key b.key
/-- the first k places are in order -/
def srtU (L : List Ent) (k : Nat) : Bool := (List.range k).all fun j => lessE (L.getD j default) (L.getD (j + 1) default)
def sortedE (L : List Ent) : Bool := srtU L (L.length - 1)
theorem srtU_zero (L : List Ent) : srtU L 0 = true := rfl
theorem srtU_succ (L : List Ent) (k : Nat) : srtU L (k + 1) = (srtU L k && lessE (L.getD k default) (L.getD (k + 1) default)) := by
  unfold srtU; rw [List.range_succ, List.all_append]; simp
theorem srtU_le {L : List Ent} {j k : Nat} (h : srtU L k = true) (hj : j ≤ k) : srtU L j = true := by
  unfold srtU at h ⊢
  rw [List.all_eq_true] at h ⊢
  exact fun i hi => h i (by rw [List.mem_range] at hi ⊢; omega)
theorem srtU_at {L : List Ent} {j k : Nat} (h : srtU L k = true) (hj : j < k) : lessE (L.getD j default) (L.getD (j + 1) default) = true := by
  unfold srtU at h
  rw [List.all_eq_true] at h
  exact h j (by rw [List.mem_range]; exact hj)
theorem sorted_no {L : List Ent} {j : Nat} (hj : j + 1 < L.length) (h : lessE (L.getD j default) (L.getD (j + 1) default) = false) : sortedE L = false := by
  cases hs : sortedE L with
  | false => rfl
  | true => have := srtU_at (j := j) hs (by omega); rw [h] at this; cases this
/-! bytes in order -/
theorem bl_cons {x y : UInt8} {a b : List UInt8} : Op.bytesLess (x :: a) (y :: b) = true ↔ x.toNat < y.toNat ∨ (x = y ∧ Op.bytesLess a b = true) := by
  simp only [Op.bytesLess, Bool.or_eq_true, Bool.and_eq_true, decide_eq_true_eq, beq_iff_eq, UInt8.lt_iff_toNat_lt]
theorem bl_irr : ∀ l : List UInt8, Op.bytesLess l l = false
  | [] => rfl
  | c :: l => by
    cases h : Op.bytesLess (c :: l) (c :: l) with
    | false => rfl
    | true =>
      rcases bl_cons.1 h with h | ⟨_, h⟩
      · omega
      · rw [bl_irr l] at h; cases h
theorem bl_trans : ∀ {a b c : List UInt8}, Op.bytesLess a b = true → Op.bytesLess b c = true → Op.bytesLess a c = true
  | a, [], c, h, _ => by cases a <;> cases h
  | _, _ :: _, [], _, h => by cases h
  | [], _ :: _, _ :: _, _, _ => rfl
  | x :: a, y :: b, z :: c, h, g => by
    rcases bl_cons.1 h with h1 | ⟨h1, h2⟩ <;> rcases bl_cons.1 g with g1 | ⟨g1, g2⟩
    · exact bl_cons.2 (.inl (by omega))
    · exact bl_cons.2 (.inl (by rw [← g1]; exact h1))
    · exact bl_cons.2 (.inl (by rw [h1]; exact g1))
    · exact bl_cons.2 (.inr ⟨h1.trans g1, bl_trans h2 g2⟩)
theorem bl_asym {a b : List UInt8} (h : Op.bytesLess a b = true) : Op.bytesLess b a = false := by
  cases g : Op.bytesLess b a with
  | false => rfl
  | true => have := bl_trans h g; rw [bl_irr] at this; cases this
theorem bl_total : ∀ {a b : List UInt8}, a ≠ b → Op.bytesLess a b = true ∨ Op.bytesLess b a = true
  | [], [], h => absurd rfl h
  | [], _ :: _, _ => .inl rfl
  | _ :: _, [], _ => .inr rfl
  | x :: a, y :: b, h => by
    by_cases e : x = y
    · subst e
      rcases bl_total (a := a) (b := b) (fun e => h (by rw [e])) with g | g
      · exact .inl (bl_cons.2 (.inr ⟨rfl, g⟩))
      · exact .inr (bl_cons.2 (.inr ⟨rfl, g⟩))
    · have : x.toNat ≠ y.toNat := fun g => e (UInt8.toNat_inj.1 g)
      rcases Nat.lt_or_ge x.toNat y.toNat with g | g
      · exact .inl (bl_cons.2 (.inl g))
      · exact .inr (bl_cons.2 (.inl (by omega)))
theorem lessE_ne {a b : Ent} (h : ¬ a.key = b.key) : lessE a b = Op.bytesLess a.key b.key := if_neg h
theorem lessE_eq {a b : Ent} (h : a.key = b.key) : lessE a b = decide (b.seq < a.seq) := if_pos h
theorem lessE_lt {a b : Ent} (h : Op.bytesLess a.key b.key = true) : lessE a b = true := by
  rw [lessE_ne]
  · exact h
  · intro e; rw [e, bl_irr] at h; cases h
theorem lessE_irr (a : Ent) : lessE a a = false := by unfold lessE; simp
theorem lessE_trans {a b c : Ent} (h : lessE a b = true) (g : lessE b c = true) : lessE a c = true := by
  unfold lessE at *
  by_cases e1 : a.key = b.key <;> by_cases e2 : b.key = c.key
  · rw [if_pos e1] at h; rw [if_pos e2] at g; rw [if_pos (e1.trans e2)]
    simp at h g ⊢; omega
  · rw [if_neg e2] at g; rw [e1, if_neg e2]; exact g
  · rw [if_neg e1] at h; rw [← e2, if_neg e1]; exact h
  · rw [if_neg e1] at h; rw [if_neg e2] at g
    have := bl_trans h g
    rw [if_neg]
    · exact this
    · intro e; rw [e, bl_irr] at this; cases this
theorem lessE_asym {a b : Ent} (h : lessE a b = true) : lessE b a = false := by
  cases g : lessE b a with
  | false => rfl
  | true => have := lessE_trans h g; rw [lessE_irr] at this; cases this
theorem lessE_total {a b : Ent} : (¬ (a.key = b.key ∧ a.seq = b.seq)) ↔ (lessE a b = true ∨ lessE b a = true) := by
  constructor
  · intro h
    unfold lessE
    by_cases e : a.key = b.key
    · rw [if_pos e, if_pos e.symm]
      have : a.seq ≠ b.seq := fun g => h ⟨e, g⟩
      simp; omega
    · rw [if_neg e, if_neg (Ne.symm e)]
      exact bl_total e
  · rintro h ⟨e1, e2⟩
    unfold lessE at h
    rw [if_pos e1, if_pos e1.symm, e2] at h
    simp at h
/-! bytes -/
def tailB (e : Ent) : List UInt8 := numB e.seq.toNat ++ (if e.del then [1] else 0 :: textB e.val)
def bytesE (e : Ent) : List UInt8 := if isE e then textB e.key ++ tailB e else []
/-- what is told of an entry that was read, of n bytes -/
def chkE (x : Ent) (n : Int) : Ent × Int × Int := if isE x then (x, n, 0) else (entZ, 0, 10)
/-- what stands behind a key -/
def tailU (key s : List UInt8) : Ent × Int × Int :=
  if (takeN s).2.2 ≠ 0 then (entZ, 0, (takeN s).2.2) else
  if (takeN s).2.1.toNat = s.length then (entZ, 0, 12) else
  if s.getD (takeN s).2.1.toNat 0 = 0 then
    if (takeT (s.drop ((takeN s).2.1.toNat + 1))).2.2 ≠ 0 then (entZ, 0, (takeT (s.drop ((takeN s).2.1.toNat + 1))).2.2)
    else (⟨key, (takeN s).1, false, (takeT (s.drop ((takeN s).2.1.toNat + 1))).1⟩, (takeN s).2.1 + 1 + (takeT (s.drop ((takeN s).2.1.toNat + 1))).2.1, 0)
  else if s.getD (takeN s).2.1.toNat 0 = 1 then (⟨key, (takeN s).1, true, []⟩, (takeN s).2.1 + 1, 0) else (entZ, 0, 10)
def takeE (s : List UInt8) : Ent × Int × Int :=
  if (takeT s).2.2 ≠ 0 then (entZ, 0, (takeT s).2.2) else
  if (tailU (takeT s).1 (s.drop (takeT s).2.1.toNat)).2.2 ≠ 0 then (entZ, 0, (tailU (takeT s).1 (s.drop (takeT s).2.1.toNat)).2.2)
  else ((tailU (takeT s).1 (s.drop (takeT s).2.1.toNat)).1, (takeT s).2.1 + (tailU (takeT s).1 (s.drop (takeT s).2.1.toNat)).2.1, 0)
section
variable {s k v : List UInt8} {n m j : Nat} {q e : Int}
theorem takeE_1 (h : takeT s = ([], 0, e)) (he : e ≠ 0) : takeE s = (entZ, 0, e) := by unfold takeE; rw [h]; exact if_pos he
theorem takeE_2 (h : takeT s = (k, (n : Int), 0)) : takeE s = if (tailU k (s.drop n)).2.2 ≠ 0 then (entZ, 0, (tailU k (s.drop n)).2.2) else ((tailU k (s.drop n)).1, (n : Int) + (tailU k (s.drop n)).2.1, 0) := by
  unfold takeE; rw [h]; rfl
theorem takeE_3 (h : takeT s = (k, (n : Int), 0)) (h2 : tailU k (s.drop n) = (entZ, 0, e)) (he : e ≠ 0) : takeE s = (entZ, 0, e) := by rw [takeE_2 h, h2]; exact if_pos he
theorem takeE_4 {x : Ent} {z : Int} (h : takeT s = (k, (n : Int), 0)) (h2 : tailU k (s.drop n) = (x, z, 0)) : takeE s = (x, (n : Int) + z, 0) := by rw [takeE_2 h, h2]; rfl
theorem tailU_1 (h : takeN s = (0, 0, e)) (he : e ≠ 0) : tailU k s = (entZ, 0, e) := by unfold tailU; rw [h]; exact if_pos he
theorem tailU_2 (h : takeN s = (q, (m : Int), 0)) (hm : m = s.length) : tailU k s = (entZ, 0, 12) := by
  unfold tailU; rw [h]; simp only [Int.toNat_natCast, ne_eq, not_true_eq_false, if_false, hm, if_true]
theorem tailU_3 (h : takeN s = (q, (m : Int), 0)) (hm : m ≠ s.length) (hc : (s.getD m 0).toNat = 0) (ht : takeT (s.drop (m + 1)) = ([], 0, e)) (he : e ≠ 0) : tailU k s = (entZ, 0, e) := by
  have hc : s.getD m 0 = 0 := UInt8.toNat_inj.1 hc
  unfold tailU; rw [h]; simp only [Int.toNat_natCast, ne_eq, not_true_eq_false, if_false, hm, hc, if_true, ht, he, not_false_eq_true]
theorem tailU_4 (h : takeN s = (q, (m : Int), 0)) (hm : m ≠ s.length) (hc : (s.getD m 0).toNat = 0) (ht : takeT (s.drop (m + 1)) = (v, (j : Int), 0)) : tailU k s = (⟨k, q, false, v⟩, (m : Int) + 1 + (j : Int), 0) := by
  have hc : s.getD m 0 = 0 := UInt8.toNat_inj.1 hc
  unfold tailU; rw [h]; simp only [Int.toNat_natCast, ne_eq, not_true_eq_false, if_false, hm, hc, if_true, ht]
theorem tailU_5 (h : takeN s = (q, (m : Int), 0)) (hm : m ≠ s.length) (hc : (s.getD m 0).toNat = 1) : tailU k s = (⟨k, q, true, []⟩, (m : Int) + 1, 0) := by
  have hc : s.getD m 0 = 1 := UInt8.toNat_inj.1 hc
  unfold tailU; rw [h]; simp only [Int.toNat_natCast, ne_eq, not_true_eq_false, if_false, hm, hc, if_true]; rfl
theorem tailU_6 (h : takeN s = (q, (m : Int), 0)) (hm : m ≠ s.length) (hc : (s.getD m 0).toNat ≠ 0) (hc1 : (s.getD m 0).toNat ≠ 1) : tailU k s = (entZ, 0, 10) := by
  have hc : ¬ s.getD m 0 = 0 := fun e => hc (by rw [e]; rfl)
  have hc1 : ¬ s.getD m 0 = 1 := fun e => hc1 (by rw [e]; rfl)
  unfold tailU; rw [h]; simp only [Int.toNat_natCast, ne_eq, not_true_eq_false, if_false, hm, hc, hc1]
theorem getD_drop (n m : Nat) : (s.drop n).getD m 0 = s.getD (n + m) 0 := by simp [List.getD]
end
def chkd (r : Ent × Int × Int) : Ent × Int × Int := if r.2.2 ≠ 0 then (entZ, 0, r.2.2) else chkE r.1 r.2.1
def readE (s : List UInt8) : Ent × Int × Int := chkd (takeE s)
theorem readE_1 {s : List UInt8} (h : (takeE s).2.2 ≠ 0) : readE s = (entZ, 0, (takeE s).2.2) := if_pos h
theorem readE_2 {s : List UInt8} (h : (takeE s).2.2 = 0) (hi : isE (takeE s).1 = false) : readE s = (entZ, 0, 10) := by unfold readE chkd chkE; rw [h, hi]; rfl
theorem readE_3 {s : List UInt8} (h : (takeE s).2.2 = 0) (hi : isE (takeE s).1 = true) : readE s = ((takeE s).1, (takeE s).2.1, 0) := by unfold readE chkd chkE; rw [h, hi]; rfl
theorem readE_ref {s k : List UInt8} {n : Nat} (h : takeT s = (k, (n : Int), 0)) : readE s = if (chkd (tailU k (s.drop n))).2.2 ≠ 0 then (entZ, 0, (chkd (tailU k (s.drop n))).2.2) else ((chkd (tailU k (s.drop n))).1, (n : Int) + (chkd (tailU k (s.drop n))).2.1, 0) := by
  have e := takeE_2 h
  generalize hr : tailU k (s.drop n) = r at *
  obtain ⟨x, z, f⟩ := r
  by_cases hf : f = 0
  · subst hf
    have e : takeE s = (x, (n : Int) + z, 0) := e
    cases hi : isE x with
    | true => rw [readE_3 (by rw [e]) (by rw [e]; exact hi), e]; unfold chkd chkE; simp [hi]
    | false => rw [readE_2 (by rw [e]) (by rw [e]; exact hi)]; unfold chkd chkE; simp [hi]
  · have e : takeE s = (entZ, 0, f) := by rw [e]; exact if_pos hf
    rw [readE_1 (by rw [e]; exact hf), e]
    unfold chkd; simp [hf]
theorem chkd_bad {r : Ent × Int × Int} {f : Int} (h : r = (entZ, 0, f)) (hf : f ≠ 0) : chkd r = (entZ, 0, f) := by subst h; exact if_pos hf
theorem chkd_no {x : Ent} {z : Int} (hi : isE x = false) : chkd (x, z, 0) = (entZ, 0, 10) := by unfold chkd chkE; rw [hi]; rfl
theorem chkd_ok {x : Ent} {z : Int} (hi : isE x = true) : chkd (x, z, 0) = (x, z, 0) := by unfold chkd chkE; rw [hi]; rfl
/-- what it is, as a value -/
def triE (r : Ent × Int × Int) : V := .tu [.a (entC r.1), .i .i64 r.2.1, .i .i64 r.2.2]
/-! the newest -/
def hitE (key : List UInt8) (seq : Int) (e : Ent) : Bool := decide (e.key = key) && decide (e.seq ≤ seq)
def newestO (L : List Ent) (key : List UInt8) (seq : Int) : Option Ent := if sortedE L then L.find? (hitE key seq) else none
def newestE (L : List Ent) (key : List UInt8) (seq : Int) : Ent × Bool := match newestO L key seq with
  | some e => (e, true)
  | none => (entZ, false)
theorem find_at {p : Ent → Bool} {L : List Ent} {i : Nat} (hb : ∀ j, j < i → p (L.getD j default) = false) (hi : i < L.length) (hp : p (L.getD i default) = true) : L.find? p = some (L.getD i default) := by
  have e : L = L.take i ++ L.getD i default :: L.drop (i + 1) := by
    have : L.getD i default = L[i] := by simp [List.getD, hi]
    rw [this, ← List.drop_eq_getElem_cons hi, List.take_append_drop]
  generalize hx : L.getD i default = x at *
  rw [e, List.find?_append]
  have hn : (L.take i).find? p = none := by
    rw [List.find?_eq_none]
    intro y hy
    obtain ⟨j, hj, rfl⟩ := List.getElem_of_mem hy
    rw [List.length_take] at hj
    have := hb j (by omega)
    rw [show L.getD j default = (L.take i)[j] by simp [List.getD, show j < L.length by omega]] at this
    rw [this]; decide
  rw [hn]
  simp [hp]
theorem find_no {p : Ent → Bool} {L : List Ent} (hb : ∀ j, j < L.length → p (L.getD j default) = false) : L.find? p = none := by
  rw [List.find?_eq_none]
  intro y hy
  obtain ⟨j, hj, rfl⟩ := List.getElem_of_mem hy
  have := hb j hj
  rw [show L.getD j default = L[j] by simp [List.getD, hj]] at this
  rw [this]; decide
theorem hit_less {key : List UInt8} {seq : Int} {e : Ent} {d : Bool} {v : List UInt8} (h : lessE e ⟨key, seq, d, v⟩ = true) : hitE key seq e = false := by
  unfold hitE
  by_cases hk : e.key = key
  · rw [lessE_eq hk] at h
    have h : seq < e.seq := of_decide_eq_true h
    rw [decide_eq_false (p := e.seq ≤ seq) (by omega), Bool.and_false]
  · rw [decide_eq_false hk, Bool.false_and]
theorem sorted_lt {L : List Ent} (hs : sortedE L = true) : ∀ {i j : Nat}, i < j → j < L.length → lessE (L.getD i default) (L.getD j default) = true := by
  intro i j hij
  induction j with
  | zero => omega
  | succ j ih =>
    intro hj
    have h1 : lessE (L.getD j default) (L.getD (j + 1) default) = true := srtU_at (k := L.length - 1) hs (by omega)
    by_cases e : i = j
    · subst e; exact h1
    · exact lessE_trans (ih (by omega) (by omega)) h1
theorem sorted_of {L : List Ent} (h : ∀ j, j + 1 < L.length → lessE (L.getD j default) (L.getD (j + 1) default) = true) : sortedE L = true := by
  unfold sortedE srtU
  rw [List.all_eq_true]
  intro j hj
  rw [List.mem_range] at hj
  exact h j (by omega)
theorem sorted_take {L : List Ent} (hs : sortedE L = true) (k : Nat) : sortedE (L.take k) = true := by
  refine sorted_of fun j hj => ?_
  rw [List.length_take] at hj
  have e : ∀ i, i < k → i < L.length → (L.take k).getD i default = L.getD i default := fun i h1 h2 => by simp [List.getD, h1]
  rw [e j (by omega) (by omega), e (j + 1) (by omega) (by omega)]
  exact sorted_lt hs (by omega) (by omega)
theorem sorted_drop {L : List Ent} (hs : sortedE L = true) (k : Nat) : sortedE (L.drop k) = true := by
  refine sorted_of fun j hj => ?_
  rw [List.length_drop] at hj
  have e : ∀ i, (L.drop k).getD i default = L.getD (k + i) default := fun i => by simp [List.getD]
  rw [e j, e (j + 1)]
  exact sorted_lt hs (by omega) (by omega)
/-- behind an entry that is not ahead of what is wanted, and of another key, there is none of that key -/
theorem hit_past {L : List Ent} (hs : sortedE L = true) {key : List UInt8} {seq : Int} {d : Bool} {v : List UInt8} {i j : Nat} (hi : i < L.length) (hn : lessE (L.getD i default) ⟨key, seq, d, v⟩ = false) (hk : (L.getD i default).key ≠ key) (hij : i ≤ j) (hj : j < L.length) : hitE key seq (L.getD j default) = false := by
  have hlt : Op.bytesLess key (L.getD i default).key = true := by
    rw [lessE_ne hk] at hn
    rcases bl_total hk with h | h
    · rw [h] at hn; cases hn
    · exact h
  have hkj : (L.getD j default).key ≠ key := by
    by_cases e : i = j
    · subst e; exact hk
    · have h1 := sorted_lt hs (show i < j by omega) hj
      intro ek
      by_cases e2 : (L.getD i default).key = (L.getD j default).key
      · exact hk (e2.trans ek)
      · rw [lessE_ne e2, ek] at h1
        have := bl_asym h1
        rw [hlt] at this; cases this
  unfold hitE
  rw [decide_eq_false hkj, Bool.false_and]
theorem newest_found {L : List Ent} (hs : sortedE L = true) {key : List UInt8} {seq : Int} {d : Bool} {v : List UInt8} {i : Nat} (hb : ∀ j, j < i → lessE (L.getD j default) ⟨key, seq, d, v⟩ = true) (hi : i < L.length) (hn : lessE (L.getD i default) ⟨key, seq, d, v⟩ = false) (hk : (L.getD i default).key = key) : newestE L key seq = (L.getD i default, true) := by
  have : newestO L key seq = some (L.getD i default) := by
    unfold newestO; rw [if_pos hs]
    refine find_at (fun j hj => hit_less (hb j hj)) hi ?_
    unfold hitE
    rw [decide_eq_true hk, Bool.true_and]
    rw [lessE_eq hk] at hn
    have hn : ¬ seq < (L.getD i default).seq := of_decide_eq_false hn
    exact decide_eq_true (by omega)
  unfold newestE; rw [this]
theorem newest_past {L : List Ent} (hs : sortedE L = true) {key : List UInt8} {seq : Int} {d : Bool} {v : List UInt8} {i : Nat} (hb : ∀ j, j < i → lessE (L.getD j default) ⟨key, seq, d, v⟩ = true) (hi : i < L.length) (hn : lessE (L.getD i default) ⟨key, seq, d, v⟩ = false) (hk : (L.getD i default).key ≠ key) : newestE L key seq = (entZ, false) := by
  have : newestO L key seq = none := by
    unfold newestO; rw [if_pos hs]
    refine find_no fun j hj => ?_
    rcases Nat.lt_or_ge j i with h | h
    · exact hit_less (hb j h)
    · exact hit_past hs hi hn hk h hj
  unfold newestE; rw [this]
theorem newest_end {L : List Ent} {key : List UInt8} {seq : Int} (hb : ∀ j, j < L.length → hitE key seq (L.getD j default) = false) : newestE L key seq = (entZ, false) := by
  have : newestO L key seq = none := by
    unfold newestO
    split
    · exact find_no hb
    · rfl
  unfold newestE; rw [this]
theorem newest_un {L : List Ent} (hs : sortedE L = false) {key : List UInt8} {seq : Int} : newestE L key seq = (entZ, false) := by
  have : newestO L key seq = none := by unfold newestO; rw [hs]; rfl
  unfold newestE; rw [this]
theorem newest_at {L : List Ent} (hs : sortedE L = true) {key : List UInt8} {seq : Int} {i : Nat} (hb : ∀ j, j < i → hitE key seq (L.getD j default) = false) (hi : i < L.length) (hk : hitE key seq (L.getD i default) = true) : newestE L key seq = (L.getD i default, true) := by
  have : newestO L key seq = some (L.getD i default) := by unfold newestO; rw [if_pos hs]; exact find_at hb hi hk
  unfold newestE; rw [this]
def okE (e : Ent) : Bool := decide (e.key.length ≤ 20) && decide (e.val.length ≤ 40)
def fewE (L : List Ent) : Bool := L.all okE && decide (L.length ≤ 60)
theorem all_at {p : Ent → Bool} {L : List Ent} {i : Nat} (hi : i < L.length) (h : p (L.getD i default) = false) : L.all p = false := by
  rw [List.all_eq_false]
  refine ⟨L[i], by simp, ?_⟩
  rw [show L.getD i default = L[i] by simp [List.getD, hi]] at h
  rw [h]; decide
theorem all_ok {p : Ent → Bool} {L : List Ent} (h : ∀ j, j < L.length → p (L.getD j default) = true) : L.all p = true := by
  rw [List.all_eq_true]
  intro y hy
  obtain ⟨j, hj, rfl⟩ := List.getElem_of_mem hy
  have := h j hj
  rwa [show L.getD j default = L[j] by simp [List.getD, hj]] at this
def twoE (r : Ent × Bool) : V := .tu [.a (entC r.1), .b r.2]
end Go.Ev
