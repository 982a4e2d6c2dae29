/- Texts of ours, without what this claim does not use: EntM BaM JrEnt Base NEnt1 NEntR NBa1 NBa3 BaN BaO BaSt Wy NBaS NBaT BaR JrBaP NBaU Wh Knravelinlaw12 NBaP JrBa2 BaK NBa5 BaW ArgR NBaL BatchNeat. No condition. -/
import Derived.Test.YthncpgkpkdolfaaPkBatchNeat3
import Derived.Test.YthncpgkpkdolfaaProg
import Derived.KernelRfl
import Derived.Test.YthncpgkpkdolfaaChecked
import Derived.Test.YthncpgkpkdolfaaRows
import Derived.WalkKit
import Derived.ProofKit
import Derived.OpenShut
import Derived.ChangeMaps5
set_option linter.all false
namespace Go.Ev
open Go
structure Ent where
  key : List UInt8
  seq : Int
  del : Bool
  val : List UInt8
deriving DecidableEq
def entZ : Ent := ⟨[], 0, false, []⟩
instance : Inhabited Ent := ⟨entZ⟩
def entC (e : Ent) : List V := [sv e.key, .i .i64 e.seq, .b e.del, sv e.val]
theorem entC_len (e : Ent) : (entC e).length = 4 := rfl
def Es (h : H) (v : V) (L : List Ent) : Prop := Ss 4 entC h v L
section
variable {P : Program} {h h' g' : H} {N : Nx} {v : V} {L : List Ent} {i d : Nat}
theorem Es.l0 (a : Es h v L) (hi : i < L.length) : L1 P (lid v) (lg v) (loff v + i * 4) (lfin v) h N = N.go P (sv (L.getD i default).key) h := Ss.ld (d := 0) a entC_len hi (by omega)
theorem Es.l2 (a : Es h v L) (hi : i < L.length) : L1 P (lid v) (lg v) (loff v + i * 4 + 2) (lfin v) h N = N.go P (.b (L.getD i default).del) h := Ss.ld (d := 2) a entC_len hi (by omega)
theorem Es.l3 (a : Es h v L) (hi : i < L.length) : L1 P (lid v) (lg v) (loff v + i * 4 + 3) (lfin v) h N = N.go P (sv (L.getD i default).val) h := Ss.ld (d := 3) a entC_len hi (by omega)
theorem Es.grow (a : Es h v L) (s : Stay nowhere h h') : Es h' v L := Ss.grow a s
end
/-- of a write -/
def isW (key : List UInt8) (del : Bool) (val : List UInt8) : Bool := decide (1 ≤ key.length ∧ key.length ≤ 13 ∧ val.length ≤ 24 ∧ (del = true → val = []))
section
variable {k v : List UInt8} {d : Bool}
theorem isW_lo (h : (k.length : Int) < 1) : isW k d v = false := by unfold isW; rw [decide_eq_false_iff_not]; rintro ⟨a, _⟩; omega
theorem isW_hi (h : 13 < (k.length : Int)) : isW k d v = false := by unfold isW; rw [decide_eq_false_iff_not]; rintro ⟨_, a, _⟩; omega
theorem isW_t (h1 : 1 ≤ (k.length : Int)) (h2 : (k.length : Int) ≤ 13) (hd : d = true) : isW k d v = decide (v = []) := by
  subst hd; unfold isW; congr 1
  refine propext ⟨fun h => h.2.2.2 rfl, fun e => ?_⟩
  subst e; exact ⟨by omega, by omega, by simp, fun _ => rfl⟩
theorem isW_f (h1 : 1 ≤ (k.length : Int)) (h2 : (k.length : Int) ≤ 13) (hd : d = false) : isW k d v = decide ((v.length : Int) ≤ 24) := by
  subst hd; unfold isW; congr 1
  exact propext ⟨fun h => by omega, fun e => ⟨by omega, by omega, by omega, fun h => by cases h⟩⟩
end
theorem bl_cons {x y : UInt8} {a b : List UInt8} : Op.bytesLess (x :: a) (y :: b) = true ↔ x.toNat < y.toNat ∨ (x = y ∧ Op.bytesLess a b = true) := by
  simp only [Op.bytesLess, Bool.or_eq_true, Bool.and_eq_true, decide_eq_true_eq, beq_iff_eq, UInt8.lt_iff_toNat_lt]
theorem bl_irr : ∀ l : List UInt8, Op.bytesLess l l = false
  | [] => rfl
  | c :: l => by
    cases h : Op.bytesLess (c :: l) (c :: l) with
    | false => rfl
    | true =>
      rcases bl_cons.1 h with h | ⟨_, h⟩
      · omega
      · rw [bl_irr l] at h; cases h
theorem bl_trans : ∀ {a b c : List UInt8}, Op.bytesLess a b = true → Op.bytesLess b c = true → Op.bytesLess a c = true
  | a, [], c, h, _ => by cases a <;> cases h
  | _, _ :: _, [], _, h => by cases h
  | [], _ :: _, _ :: _, _, _ => rfl
  | x :: a, y :: b, z :: c, h, g => by
    rcases bl_cons.1 h with h1 | ⟨h1, h2⟩ <;> rcases bl_cons.1 g with g1 | ⟨g1, g2⟩
    · exact bl_cons.2 (.inl (by omega))
    · exact bl_cons.2 (.inl (by rw [← g1]; exact h1))
    · exact bl_cons.2 (.inl (by rw [h1]; exact g1))
    · exact bl_cons.2 (.inr ⟨h1.trans g1, bl_trans h2 g2⟩)
theorem bl_total : ∀ {a b : List UInt8}, a ≠ b → Op.bytesLess a b = true ∨ Op.bytesLess b a = true
  | [], [], h => absurd rfl h
  | [], _ :: _, _ => .inl rfl
  | _ :: _, [], _ => .inr rfl
  | x :: a, y :: b, h => by
    by_cases e : x = y
    · subst e
      rcases bl_total (a := a) (b := b) (fun e => h (by rw [e])) with g | g
      · exact .inl (bl_cons.2 (.inr ⟨rfl, g⟩))
      · exact .inr (bl_cons.2 (.inr ⟨rfl, g⟩))
    · have : x.toNat ≠ y.toNat := fun g => e (UInt8.toNat_inj.1 g)
      rcases Nat.lt_or_ge x.toNat y.toNat with g | g
      · exact .inl (bl_cons.2 (.inl g))
      · exact .inr (bl_cons.2 (.inl (by omega)))
section
variable {s k v : List UInt8} {n m j : Nat} {q e : Int}
end
end Go.Ev

set_option linter.all false
namespace Go.Ev
open Go
structure Wri where
  key : List UInt8
  del : Bool
  val : List UInt8
deriving DecidableEq
def wriZ : Wri := ⟨[], false, []⟩
instance : Inhabited Wri := ⟨wriZ⟩
def wriC (w : Wri) : List V := [sv w.key, .b w.del, sv w.val]
theorem wriC_len (w : Wri) : (wriC w).length = 3 := rfl
def Ws (h : H) (v : V) (L : List Wri) : Prop := Ss 3 wriC h v L
section
variable {P : Program} {h h' g' : H} {N : Nx} {v : V} {L : List Wri} {i d : Nat}
theorem Ws.ln (a : Ws h v L) : H1 P gLen v g' N = N.go P (.i .i64 (L.length : Int)) g' := Ss.ln a
theorem Ws.ix (a : Ws h v L) (hi : i < L.length) : IX P 3 v i g' N = N.go P (.p (lid v) (lg v) (loff v + i * 3) (lfin v)) g' := Ss.ix a hi
theorem Ws.l0 (a : Ws h v L) (hi : i < L.length) : L1 P (lid v) (lg v) (loff v + i * 3) (lfin v) h N = N.go P (sv (L.getD i default).key) h := Ss.ld (d := 0) a wriC_len hi (by omega)
theorem Ws.l2 (a : Ws h v L) (hi : i < L.length) : L1 P (lid v) (lg v) (loff v + i * 3 + 2) (lfin v) h N = N.go P (sv (L.getD i default).val) h := Ss.ld (d := 2) a wriC_len hi (by omega)
theorem Ws.la (a : Ws h v L) (hi : i < L.length) : LN P (lid v) (lg v) (loff v + i * 3) (lfin v) 3 h N = N.go P (.a [sv (L.getD i default).key, .b (L.getD i default).del, sv (L.getD i default).val]) h := Ss.ldA a wriC_len (by omega) hi
theorem Ws.grow (a : Ws h v L) (s : Stay nowhere h h') : Ws h' v L := Ss.grow a s
end
theorem take_wri {L : List Wri} {i : Nat} (hi : i < L.length) : L.take (i + 1) = L.take i ++ [L.getD i default] := by
  rw [List.take_succ]; simp [List.getD, hi]
def isR (w : Wri) : Bool := isW w.key w.del w.val
/-- the i-th one is a write, its key above the one ahead -/
def upA (L : List Wri) (j : Nat) : Bool := isR (L.getD j default) && (decide (j = 0) || Op.bytesLess (L.getD (j - 1) default).key (L.getD j default).key)
def upU (L : List Wri) (i : Nat) : Bool := (List.range i).all (upA L)
def isB (L : List Wri) : Bool := upU L L.length && decide (L.length ≤ 8)
theorem upU_succ (L : List Wri) (i : Nat) : upU L (i + 1) = (upU L i && upA L i) := by unfold upU; rw [List.range_succ, List.all_append]; simp
theorem upU_no {L : List Wri} {i : Nat} (hi : i < L.length) (h : upA L i = false) : isB L = false := by
  unfold isB upU
  rw [show ((List.range L.length).all (upA L)) = false from List.all_eq_false.2 ⟨i, List.mem_range.2 hi, by rw [h]; simp⟩]; rfl
theorem isB_len {L : List Wri} (h : isB L = true) : L.length ≤ 8 := by
  unfold isB at h; rw [Bool.and_eq_true] at h; exact of_decide_eq_true h.2
def leB (a b : List UInt8) : Bool := Op.bytesLess a b || decide (a = b)
def wiS (w : Wri) (p : List Wri × Bool) (x : Wri) : List Wri × Bool :=
  let q := if !p.2 && leB w.key x.key then (p.1 ++ [w], true) else p
  if x.key = w.key then q else (q.1 ++ [x], q.2)
def wiU (w : Wri) (L : List Wri) : List Wri × Bool := L.foldl (wiS w) ([], false)
def withB (L : List Wri) (w : Wri) : List Wri := if (wiU w L).2 then (wiU w L).1 else (wiU w L).1 ++ [w]
def neatB (L : List Wri) : List Wri := L.foldl withB []
theorem neatB_take {L : List Wri} {i : Nat} (hi : i < L.length) : neatB (L.take (i + 1)) = withB (neatB (L.take i)) (L.getD i default) := by
  rw [take_wri hi]; unfold neatB; rw [List.foldl_append]; rfl
end Go.Ev

set_option maxRecDepth 1000000
set_option linter.all false
namespace Go.Proofs.Ythncpgkpkdolfaa
open Go Go.Ev
noncomputable abbrev s36_0 : CC := (CC.seq (CC.region [(wB 2 (doMove (O.c (V.b Bool.false))))]) CC.ret)
noncomputable abbrev s36_1 : CC := (CC.cond (tm 12) s36_0 CC.skip)
noncomputable abbrev s36_2 : CC := (CC.seq (CC.region [(wB 3 (doFieldAddr 0 (tm 1))), (wB 4 (doLoad (tm 3))), (wB 5 (doLenS (tm 4))), (wB 6 (bin2 fLss (tm 5) (oN 1))), (wB 7 (doMove (tm 6))), (wG 7 false 8 (doFieldAddr 0 (tm 1))), (wG 7 false 9 (doLoad (tm 8))), (wG 7 false 10 (doLenS (tm 9))), (wG 7 false 11 (bin2 fGtr (tm 10) (oN 13))), (wB 12 (doPick (tm 7) (O.c (V.b Bool.true)) (tm 11)))]) s36_1)
noncomputable abbrev s36_3 : CC := (CC.seq (CC.region [(wB 15 (doFieldAddr 2 (tm 1))), (wB 16 (doLoad (tm 15))), (wB 17 (doSCmp eqS (tm 16) (O.c (V.s 0 0)))), (wB 2 (doMove (tm 17)))]) CC.ret)
noncomputable abbrev s36_4 : CC := (CC.cond (tm 14) s36_3 CC.skip)
noncomputable abbrev s36_5 : CC := (CC.seq (CC.region [(wB 13 (doFieldAddr 1 (tm 1))), (wB 14 (doLoad (tm 13)))]) s36_4)
noncomputable abbrev s36_6 : CC := (CC.seq (CC.region [(wB 18 (doFieldAddr 2 (tm 1))), (wB 19 (doLoad (tm 18))), (wB 20 (doLenS (tm 19))), (wB 21 (bin2 fLeq (tm 20) (oN 24))), (wB 2 (doMove (tm 21)))]) CC.ret)
noncomputable abbrev s36_7 : CC := (CC.seq s36_5 s36_6)
noncomputable abbrev s36_8 : CC := (CC.seq s36_2 s36_7)
noncomputable abbrev b36 : CC := (CC.seq (CC.region [(wB 1 (doBox 49 (tm 0))), (wB 2 (doMove (O.c (V.b Bool.false))))]) s36_8)
theorem c36 : compFn Try.prog 36 = ⟨22, b36, [(Rs.tmp (slOf 2))]⟩ := by kernel_rfl
end Go.Proofs.Ythncpgkpkdolfaa

namespace Go.Proofs.Ythncpgkpkdolfaa
open Go Go.Ev
theorem hmix : Try.prog.follows .mixedOrders = true := by kernel_rfl
open Go.Ev in
instance {nt : Nat} {t : F} {h : H} {K : X → F → H → Prop} {l : List CO} : St (Ok Try.prog nt (.draws l) t h K) (DO Try.prog l t h (K .normal)) := ⟨Ok.dw hmix⟩
end Go.Proofs.Ythncpgkpkdolfaa

set_option maxRecDepth 100000
set_option maxHeartbeats 8000000
set_option linter.all false
namespace Go.Proofs.Ythncpgkpkdolfaa
open Go Go.Ev
theorem isWrite_ok {h : H} {k v : List UInt8} {d : Bool} (hf : B.val h.floor ≤ B.val h.next) : FnOk Try.prog 36 [.a [sv k, .b d, sv v]] h fun y h' => y = .b (isW k d v) ∧ Stay nowhere h h' := by
  refine fn_go c36 (by intro hb; cases hb) (by simp) (by simp) fun Q hQ => ?_
  simp only [slotsF, Nat.reduceAdd]
  repeat' (first
    | refine St.h ?_
    | simp (disch := first | omega | (simp only [lnv]; omega)) only [wlk, ↓get_put', ↓reduceIte, seval]
    | (with_reducible (first | apply cd_split | apply gd_split)) <;> (intro hc; (try simp only [hcn] at hc); (try simp only [hc]); (try simp only [hcl] at hc); try omega))
  refine AL.own (by simp) hf fun h1 s1 n1 o1 => ?_
  repeat' (first
    | refine St.h ?_
    | simp (disch := first | omega | (simp only [lnv]; omega)) only [wlk, ↓get_put', ↓reduceIte, seval, o1.row.l1]
    | (with_reducible (first | apply cd_split | apply gd_split)) <;> (intro hc; (try simp only [hcn] at hc); (try simp only [hc]); (try simp only [hcl] at hc); try omega))
  all_goals (subst hQ; refine ⟨?_, s1⟩; congr 1; symm; first | exact isW_lo (by assumption) | exact isW_hi (by assumption) | exact isW_t (by assumption) (by assumption) (by assumption) | exact isW_f (by assumption) (by assumption) (by assumption))
end Go.Proofs.Ythncpgkpkdolfaa

set_option maxRecDepth 100000
set_option maxHeartbeats 8000000
set_option linter.all false
namespace Go.Proofs.Ythncpgkpkdolfaa
open Go Go.Ev
/-- a block, as it lies -/
structure Bk where
  v : V
  l : List Ent
instance : Inhabited Bk := ⟨⟨.l0, []⟩⟩
def bkC (b : Bk) : List V := [b.v]
theorem bkC_len (b : Bk) : (bkC b).length = 1 := rfl
/-- blocks, as they lie -/
structure Bls (h : H) (v : V) (bs : List (List Ent)) (ks : List Bk) : Prop where
  ss : Ss 1 bkC h v ks
  eq : ks.map (·.l) = bs
  es : ∀ k ∈ ks, Es h k.v k.l
section
variable {P : Program} {h h' g' : H} {N : Nx} {v : V} {bs : List (List Ent)} {ks : List Bk} {i : Nat}
theorem Bls.len (a : Bls h v bs ks) : ks.length = bs.length := by rw [← a.eq, List.length_map]
theorem Bls.ld (a : Bls h v bs ks) (hi : i < bs.length) : L1 P (lid v) (lg v) (loff v + i) (lfin v) h N = N.go P (ks.getD i default).v h := by
  have := a.ss.ld (P := P) (N := N) (i := i) (d := 0) bkC_len (by rw [a.len]; exact hi) (by omega)
  rwa [Nat.mul_one] at this
theorem Bls.grow (a : Bls h v bs ks) (s : Stay nowhere h h') : Bls h' v bs ks := ⟨a.ss.grow s, a.eq, fun k hk => (a.es k hk).grow s⟩
theorem Bls.at (a : Bls h v bs ks) (hi : i < bs.length) : Es h (ks.getD i default).v (bs.getD i []) := by
  have hk : i < ks.length := by rw [a.len]; exact hi
  have h1 := a.es (ks.getD i default) (by rw [List.getD_eq_getElem?_getD, List.getElem?_eq_getElem hk]; simp)
  have h2 : bs.getD i [] = (ks.getD i default).l := by rw [← a.eq]; simp [List.getD, List.getElem?_eq_getElem hk]
  rw [h2]; exact h1
end
end Go.Proofs.Ythncpgkpkdolfaa

set_option maxRecDepth 100000
set_option maxHeartbeats 8000000
set_option linter.all false
namespace Go.Proofs.Ythncpgkpkdolfaa
open Go Go.Ev
theorem fm_wri (L : List Wri) : (L.flatMap wriC).length = L.length * 3 := fm_len wriC_len L
/-- append(u, x) of a write -/
theorem push_w {h : H} {u : V} {M : List Wri} {x : Wri} {id : B} {N : Nx} (b : Buf h 49 3 u (M.flatMap wriC)) (o : Ev.Own h id (wriC x)) (hl : M.length ≤ 100000) (hf : B.val h.floor ≤ B.val h.next)
    (k : ∀ u' h', Buf h' 49 3 u' ((M ++ [x]).flatMap wriC) → Stay (isOf u) h h' → (∀ i, isOf u' i → isOf u i ∨ B.val h.next ≤ B.val i) → N.go Try.prog u' h') : AP Try.prog 49 3 u (.l id 0 0 1 3 (some 1)) h N := by
  refine AP.buf (vs := wriC x) (cnt := 1) b (new_row o.row rfl (Nat.le_refl _) (by omega) (by show 3 ≤ 3; omega)) hf (by omega) rfl rfl (by rw [fm_wri]; show M.length * 3 + 3 ≤ 1048576; omega) fun u' h' b' s' hu _ => ?_
  refine k u' h' ?_ s' hu
  rw [List.flatMap_append]; simpa using b'
end Go.Proofs.Ythncpgkpkdolfaa

set_option maxRecDepth 100000
set_option maxHeartbeats 8000000
set_option linter.all false
namespace Go.Proofs.Ythncpgkpkdolfaa
open Go Go.Ev
theorem swn_buf12 {h : H} {el n : Nat} {v : V} {xs : List V} (b : Buf h el n v xs) : SwN n v := by
  rcases b with ⟨rfl, _⟩ | ⟨id, g, m, blk, rfl, h1, h2, _⟩
  · exact .inl rfl
  · exact .inr ⟨_, _, _, _, _, _, rfl, by show xs.length = 0 + m * n; omega⟩
end Go.Proofs.Ythncpgkpkdolfaa

set_option linter.all false
namespace Go.Ev
open Go
def Up (L : List Wri) : Prop := L.Pairwise fun a b => Op.bytesLess a.key b.key = true
def insW (w : Wri) : List Wri → List Wri
  | [] => [w]
  | x :: L => if x.key = w.key then w :: L else if Op.bytesLess w.key x.key then w :: x :: L else x :: insW w L
theorem wi_true {w : Wri} : ∀ {L : List Wri} {out : List Wri}, (∀ x ∈ L, x.key ≠ w.key) → L.foldl (wiS w) (out, true) = (out ++ L, true)
  | [], out, _ => by simp
  | x :: L, out, h => by
    have h1 := h x (by simp)
    rw [List.foldl_cons, show wiS w (out, true) x = (out ++ [x], true) by unfold wiS; simp [h1], wi_true fun y hy => h y (List.mem_cons_of_mem _ hy)]
    simp
theorem bl_ne {a b : List UInt8} (h : Op.bytesLess a b = true) : a ≠ b := fun e => by rw [e, bl_irr] at h; cases h
theorem wi_false {w : Wri} : ∀ {L : List Wri} {out : List Wri}, Up L → (if (L.foldl (wiS w) (out, false)).2 then (L.foldl (wiS w) (out, false)).1 else (L.foldl (wiS w) (out, false)).1 ++ [w]) = out ++ insW w L
  | [], out, _ => by simp [insW]
  | x :: L, out, h => by
    obtain ⟨h1, h2⟩ := List.pairwise_cons.1 h
    rw [List.foldl_cons]
    by_cases he : x.key = w.key
    · have hl : leB w.key x.key = true := by unfold leB; rw [he]; simp
      rw [show wiS w (out, false) x = (out ++ [w], true) by unfold wiS; simp [he, show leB w.key w.key = true by unfold leB; simp], wi_true fun y hy e => by
        have := h1 y hy
        rw [he, e, bl_irr] at this; cases this]
      unfold insW; rw [if_pos he]; simp
    · cases hb : Op.bytesLess w.key x.key with
      | true =>
        have hl : leB w.key x.key = true := by unfold leB; rw [hb]; rfl
        rw [show wiS w (out, false) x = (out ++ [w] ++ [x], true) by unfold wiS; simp [he, hl], wi_true fun y hy e => by
          have := bl_trans hb (h1 y hy)
          rw [e, bl_irr] at this; cases this]
        unfold insW; rw [if_neg he, hb]; simp
      | false =>
        have hl : leB w.key x.key = false := by unfold leB; rw [hb, decide_eq_false fun e => he e.symm]; rfl
        have hi : insW w (x :: L) = x :: insW w L := by
          show (if x.key = w.key then _ else if _ then _ else _) = _
          rw [if_neg he, hb]; simp
        rw [show wiS w (out, false) x = (out ++ [x], false) by unfold wiS; simp [he, hl], wi_false h2, hi]
        simp
theorem withB_ins {w : Wri} {L : List Wri} (h : Up L) : withB L w = insW w L := by
  have := wi_false (w := w) (out := []) h
  rw [List.nil_append] at this
  exact this
theorem insW_mem {w m : Wri} : ∀ {L : List Wri}, Up L → (m ∈ insW w L ↔ m = w ∨ (m ∈ L ∧ m.key ≠ w.key))
  | [], _ => by simp [insW]
  | x :: L, h => by
    obtain ⟨h1, h2⟩ := List.pairwise_cons.1 h
    unfold insW
    by_cases he : x.key = w.key
    · rw [if_pos he, List.mem_cons, List.mem_cons]
      constructor
      · rintro (e | e)
        · exact .inl e
        · exact .inr ⟨.inr e, fun e2 => bl_ne (h1 m e) (he.trans e2.symm)⟩
      · rintro (e | ⟨e | e, e2⟩)
        · exact .inl e
        · rw [e] at e2; exact absurd he e2
        · exact .inr e
    · rw [if_neg he]
      cases hb : Op.bytesLess w.key x.key with
      | true =>
        rw [if_pos rfl, List.mem_cons, List.mem_cons]
        constructor
        · rintro (e | e | e)
          · exact .inl e
          · exact .inr ⟨.inl e, by rw [e]; exact he⟩
          · exact .inr ⟨.inr e, fun e2 => by
              have := bl_trans hb (h1 m e)
              exact bl_ne this e2.symm⟩
        · rintro (e | ⟨e | e, _⟩)
          · exact .inl e
          · exact .inr (.inl e)
          · exact .inr (.inr e)
      | false =>
        rw [if_neg (by simp), List.mem_cons, insW_mem h2, List.mem_cons]
        constructor
        · rintro (e | e | ⟨e, e2⟩)
          · exact .inr ⟨.inl e, by rw [e]; exact he⟩
          · exact .inl e
          · exact .inr ⟨.inr e, e2⟩
        · rintro (e | ⟨e | e, e2⟩)
          · exact .inr (.inl e)
          · exact .inl e
          · exact .inr (.inr ⟨e, e2⟩)
theorem insW_up {w : Wri} : ∀ {L : List Wri}, Up L → Up (insW w L)
  | [], _ => by simp [insW, Up]
  | x :: L, h => by
    obtain ⟨h1, h2⟩ := List.pairwise_cons.1 h
    unfold insW
    by_cases he : x.key = w.key
    · rw [if_pos he]
      exact List.pairwise_cons.2 ⟨fun y hy => by rw [← he]; exact h1 y hy, h2⟩
    · rw [if_neg he]
      cases hb : Op.bytesLess w.key x.key with
      | true =>
        rw [if_pos rfl]
        exact List.pairwise_cons.2 ⟨fun y hy => by
          rcases List.mem_cons.1 hy with e | e
          · rw [e]; exact hb
          · exact bl_trans hb (h1 y e), h⟩
      | false =>
        rw [if_neg (by simp)]
        refine List.pairwise_cons.2 ⟨fun y hy => ?_, insW_up h2⟩
        rcases (insW_mem h2).1 hy with e | ⟨e, _⟩
        · rw [e]
          rcases bl_total (fun e => he e : x.key ≠ w.key) with h3 | h3
          · exact h3
          · rw [hb] at h3; cases h3
        · exact h1 y e
theorem neat_up : ∀ (L out : List Wri), Up out → Up (L.foldl withB out)
  | [], _, h => h
  | w :: L, out, h => by
    rw [List.foldl_cons]
    exact neat_up L _ (by rw [withB_ins h]; exact insW_up h)
theorem neatB_up (L : List Wri) : Up (neatB L) := neat_up L [] List.Pairwise.nil
theorem neatB_step {L : List Wri} {i : Nat} (hi : i < L.length) : neatB (L.take (i + 1)) = insW (L.getD i default) (neatB (L.take i)) := by rw [neatB_take hi, withB_ins (neatB_up _)]
theorem up_ext : ∀ {A C : List Wri}, Up A → Up C → (∀ a, a ∈ A ↔ a ∈ C) → A = C
  | [], [], _, _, _ => rfl
  | [], c :: C, _, _, h => absurd ((h c).2 (by simp)) (by simp)
  | a :: A, [], _, _, h => absurd ((h a).1 (by simp)) (by simp)
  | a :: A, c :: C, ha, hc, h => by
    obtain ⟨a1, a2⟩ := List.pairwise_cons.1 ha
    obtain ⟨c1, c2⟩ := List.pairwise_cons.1 hc
    have e : a = c := by
      rcases List.mem_cons.1 ((h a).1 (by simp)) with e | e
      · exact e
      · rcases List.mem_cons.1 ((h c).2 (by simp)) with e2 | e2
        · exact e2.symm
        · have := bl_trans (c1 a e) (a1 c e2)
          rw [bl_irr] at this; cases this
    subst e
    rw [up_ext a2 c2 fun x => ?_]
    constructor
    · intro hx
      rcases List.mem_cons.1 ((h x).1 (List.mem_cons_of_mem _ hx)) with e | e
      · have := a1 x hx; rw [e, bl_irr] at this; cases this
      · exact e
    · intro hx
      rcases List.mem_cons.1 ((h x).2 (List.mem_cons_of_mem _ hx)) with e | e
      · have := c1 x hx; rw [e, bl_irr] at this; cases this
      · exact e
theorem upU_up {L : List Wri} (h : Up L) (hr : ∀ w ∈ L, isR w = true) : upU L L.length = true := by
  unfold upU
  refine List.all_eq_true.2 fun j hj => ?_
  have hj := List.mem_range.1 hj
  unfold upA
  rw [hr _ (by rw [show L.getD j default = L[j] by simp [List.getD, hj]]; simp), Bool.true_and]
  by_cases h0 : j = 0
  · rw [decide_eq_true h0]; rfl
  · have := (List.pairwise_iff_getElem.1 h) (j - 1) j (by omega) hj (by omega)
    rw [show L.getD j default = L[j] by simp [List.getD, hj], show L.getD (j - 1) default = L[j - 1] by simp [List.getD, show j - 1 < L.length by omega], this, Bool.or_true]
theorem isB_of {L : List Wri} (h : Up L) (hr : ∀ w ∈ L, isR w = true) (hl : L.length ≤ 8) : isB L = true := by unfold isB; rw [upU_up h hr, decide_eq_true hl]; rfl
end Go.Ev

set_option linter.all false
namespace Go.Ev
open Go
/-- of two of L, by their places: is the first one's key less -/
def klK (L : List Wri) (x y : Nat) : Bool := Op.bytesLess (L.getD x default).key (L.getD y default).key
def eqK (L : List Wri) (x y : Nat) : Prop := (L.getD x default).key = (L.getD y default).key
/-- by keys, those of one key as they came -/
def ltK (L : List Wri) (x y : Nat) : Prop := klK L x y = true ∨ (eqK L x y ∧ x < y)
section
variable {L : List Wri} {x y z : Nat} {p q : Nat → Nat} {a b c m s e n : Nat}
theorem ltK_kl (h : klK L x y = true) : ltK L x y := .inl h
theorem ltK_no (h : klK L x y = false) (hs : eqK L y x → y < x) : ltK L y x := by
  unfold klK at h
  by_cases e : (L.getD x default).key = (L.getD y default).key
  · exact .inr ⟨e.symm, hs e.symm⟩
  · rcases bl_total e with h2 | h2
    · rw [h] at h2; cases h2
    · exact .inl h2
theorem ltK_trans (h1 : ltK L x y) (h2 : ltK L y z) : ltK L x z := by
  unfold ltK klK eqK at *
  rcases h1 with h1 | ⟨h1, h3⟩ <;> rcases h2 with h2 | ⟨h2, h4⟩
  · exact .inl (bl_trans h1 h2)
  · rw [h2] at h1; exact .inl h1
  · rw [← h1] at h2; exact .inl h2
  · exact .inr ⟨h1.trans h2, by omega⟩
/-- the row in places a to b is in order -/
def Srt (L : List Wri) (p : Nat → Nat) (a b : Nat) : Prop := ∀ i j, a ≤ i → i < j → j < b → ltK L (p i) (p j)
/-- of one key those in the first part came first -/
def Stb (L : List Wri) (p : Nat → Nat) (a m b : Nat) : Prop := ∀ i j, a ≤ i → i < m → m ≤ j → j < b → eqK L (p i) (p j) → p i < p j
def Crs (L : List Wri) (p : Nat → Nat) (a m b : Nat) : Prop := ∀ i j, a ≤ i → i < m → m ≤ j → j < b → ltK L (p i) (p j)
/-- in places a to b the same ones, elsewhere nothing has changed -/
structure Per (p q : Nat → Nat) (a b : Nat) : Prop where
  out : ∀ k, k < a ∨ b ≤ k → q k = p k
  mem : ∀ x, (∃ k, a ≤ k ∧ k < b ∧ q k = x) ↔ ∃ k, a ≤ k ∧ k < b ∧ p k = x
theorem Per.refl : Per p p a b := ⟨fun _ _ => rfl, fun _ => Iff.rfl⟩
theorem Per.trans {r : Nat → Nat} (h1 : Per p q a b) (h2 : Per q r a b) : Per p r a b := ⟨fun k hk => (h2.out k hk).trans (h1.out k hk), fun x => (h2.mem x).trans (h1.mem x)⟩
theorem Per.wide {a' b' : Nat} (h : Per p q a b) (ha : a' ≤ a) (hb : b ≤ b') : Per p q a' b' := by
  refine ⟨fun k hk => h.out k (by omega), fun x => ⟨?_, ?_⟩⟩
  · rintro ⟨k, h1, h2, h3⟩
    by_cases hk : k < a ∨ b ≤ k
    · exact ⟨k, h1, h2, by rw [← h.out k hk]; exact h3⟩
    · obtain ⟨j, h4, h5, h6⟩ := (h.mem x).1 ⟨k, by omega, by omega, h3⟩
      exact ⟨j, by omega, by omega, h6⟩
  · rintro ⟨k, h1, h2, h3⟩
    by_cases hk : k < a ∨ b ≤ k
    · exact ⟨k, h1, h2, by rw [h.out k hk]; exact h3⟩
    · obtain ⟨j, h4, h5, h6⟩ := (h.mem x).2 ⟨k, by omega, by omega, h3⟩
      exact ⟨j, by omega, by omega, h6⟩
theorem srt_glue (h1 : Srt L p a m) (h2 : Srt L p m b) (h3 : Crs L p a m b) : Srt L p a b := fun i j hi hij hj => by
  by_cases h4 : j < m
  · exact h1 i j hi hij h4
  · by_cases h5 : m ≤ i
    · exact h2 i j h5 hij hj
    · exact h3 i j hi (by omega) (by omega) hj
theorem crs_per (h : Crs L p a m b) (h1 : Per p q a m) : Crs L q a m b := fun i j hi him hmj hj => by
  obtain ⟨k, k1, k2, k3⟩ := (h1.mem (q i)).1 ⟨i, hi, him, rfl⟩
  rw [← k3, h1.out j (.inr hmj)]
  exact h k j k1 k2 hmj hj
theorem crs_per2 (h : Crs L p a m b) (h1 : Per p q m b) : Crs L q a m b := fun i j hi him hmj hj => by
  obtain ⟨k, k1, k2, k3⟩ := (h1.mem (q j)).1 ⟨j, hmj, hj, rfl⟩
  rw [← k3, h1.out i (.inl him)]
  exact h i k hi him k1 k2
theorem srt_out (h : Srt L p a b) (h1 : ∀ k, a ≤ k → k < b → q k = p k) : Srt L q a b := fun i j hi hij hj => by
  rw [h1 i hi (by omega), h1 j (by omega) hj]; exact h i j hi hij hj
/-- s on: i there, then j; turned about -/
def rotK (p : Nat → Nat) (s i j : Nat) : Nat → Nat := fun k => if k < s then p k else if k < s + j then p (k + i) else if k < s + j + i then p (k - j) else p k
theorem rot_lo (h : x < s) : rotK p s a b x = p x := if_pos h
theorem rot_1 (h1 : s ≤ x) (h2 : x < s + b) : rotK p s a b x = p (x + a) := by unfold rotK; rw [if_neg (by omega), if_pos h2]
theorem rot_2 (h1 : s + b ≤ x) (h2 : x < s + b + a) : rotK p s a b x = p (x - b) := by unfold rotK; rw [if_neg (by omega), if_neg (by omega), if_pos h2]
theorem rot_hi (h : s + b + a ≤ x) : rotK p s a b x = p x := by unfold rotK; rw [if_neg (by omega), if_neg (by omega), if_neg (by omega)]
/-- n from a on and n from b on change places -/
def blcK (p : Nat → Nat) (a b n : Nat) : Nat → Nat := fun k => if a ≤ k ∧ k < a + n then p (k - a + b) else if b ≤ k ∧ k < b + n then p (k - b + a) else p k
def swpK (p : Nat → Nat) (a b : Nat) : Nat → Nat := fun k => if k = b then p a else if k = a then p b else p k
theorem blc_zero : blcK p a b 0 = p := by funext k; unfold blcK; rw [if_neg (by omega), if_neg (by omega)]
theorem blc_succ (h : a + n + 1 ≤ b) : swpK (blcK p a b n) (a + n) (b + n) = blcK p a b (n + 1) := by
  funext k
  unfold swpK blcK
  by_cases h1 : k = b + n
  · subst h1
    rw [if_pos rfl, if_neg (by omega), if_neg (by omega), if_neg (by omega), if_pos (by omega)]; congr 1; omega
  · rw [if_neg h1]
    by_cases h2 : k = a + n
    · subst h2
      rw [if_pos rfl, if_neg (by omega), if_neg (by omega), if_pos (by omega)]; congr 1; omega
    · rw [if_neg h2]
      by_cases h3 : a ≤ k ∧ k < a + n
      · rw [if_pos h3, if_pos (by omega)]
      · rw [if_neg h3, if_neg (c := a ≤ k ∧ k < a + (n + 1)) (by omega)]
        by_cases h4 : b ≤ k ∧ k < b + n
        · rw [if_pos h4, if_pos (by omega)]
        · rw [if_neg h4, if_neg (by omega)]
theorem rot_gt {i j : Nat} (h : j < i) : rotK (blcK p s (s + i) j) (s + j) (i - j) j = rotK p s i j := by
  funext k
  by_cases h1 : k < s
  · rw [rot_lo (by omega), rot_lo h1]; unfold blcK; rw [if_neg (by omega), if_neg (by omega)]
  · by_cases h2 : k < s + j
    · rw [rot_lo h2, rot_1 (by omega) h2]; unfold blcK; rw [if_pos (by omega)]; congr 1; omega
    · by_cases h3 : k < s + j + j
      · rw [rot_1 (by omega) h3, rot_2 (by omega) (by omega)]; unfold blcK; rw [if_neg (by omega), if_pos (by omega)]; congr 1; omega
      · by_cases h4 : k < s + j + i
        · rw [rot_2 (by omega) (by omega), rot_2 (by omega) h4]; unfold blcK; rw [if_neg (by omega), if_neg (by omega)]
        · rw [rot_hi (by omega), rot_hi (by omega)]; unfold blcK; rw [if_neg (by omega), if_neg (by omega)]
theorem rot_lt {i j : Nat} (h : i < j) : rotK (blcK p s (s + j) i) s i (j - i) = rotK p s i j := by
  funext k
  by_cases h1 : k < s
  · rw [rot_lo h1, rot_lo h1]; unfold blcK; rw [if_neg (by omega), if_neg (by omega)]
  · by_cases h2 : k < s + (j - i)
    · rw [rot_1 (by omega) h2, rot_1 (by omega) (by omega)]; unfold blcK; rw [if_neg (by omega), if_neg (by omega)]
    · by_cases h3 : k < s + j
      · rw [rot_2 (by omega) (by omega), rot_1 (by omega) h3]; unfold blcK; rw [if_pos (by omega)]; congr 1; omega
      · by_cases h4 : k < s + j + i
        · rw [rot_hi (by omega), rot_2 (by omega) h4]; unfold blcK; rw [if_neg (by omega), if_pos (by omega)]; congr 1; omega
        · rw [rot_hi (by omega), rot_hi (by omega)]; unfold blcK; rw [if_neg (by omega), if_neg (by omega)]
theorem rot_eq {i : Nat} : blcK p s (s + i) i = rotK p s i i := by
  funext k
  by_cases h1 : k < s
  · rw [rot_lo h1]; unfold blcK; rw [if_neg (by omega), if_neg (by omega)]
  · by_cases h2 : k < s + i
    · rw [rot_1 (by omega) h2]; unfold blcK; rw [if_pos (by omega)]; congr 1; omega
    · by_cases h3 : k < s + i + i
      · rw [rot_2 (by omega) h3]; unfold blcK; rw [if_neg (by omega), if_pos (by omega)]; congr 1; omega
      · rw [rot_hi (by omega)]; unfold blcK; rw [if_neg (by omega), if_neg (by omega)]
theorem rot_n0 : rotK p s n 0 = p := by
  funext k
  by_cases h1 : k < s
  · exact rot_lo h1
  · by_cases h2 : k < s + n
    · rw [rot_2 (by omega) (by omega)]; rfl
    · exact rot_hi (by omega)
theorem rot_0n : rotK p s 0 n = p := by
  funext k
  by_cases h1 : k < s
  · exact rot_lo h1
  · by_cases h2 : k < s + n
    · rw [rot_1 (by omega) (by omega)]; rfl
    · exact rot_hi (by omega)
/-- one is moved up by one more place -/
theorem rot_up : swpK (rotK p s 1 n) (s + n) (s + n + 1) = rotK p s 1 (n + 1) := by
  funext k
  unfold swpK
  by_cases h1 : k = s + n + 1
  · subst h1
    rw [if_pos rfl, rot_2 (by omega) (by omega), rot_2 (by omega) (by omega)]; congr 1; omega
  · rw [if_neg h1]
    by_cases h2 : k = s + n
    · subst h2
      rw [if_pos rfl, rot_hi (by omega), rot_1 (by omega) (by omega)]
    · rw [if_neg h2]
      by_cases h3 : k < s
      · rw [rot_lo h3, rot_lo h3]
      · by_cases h4 : k < s + n
        · rw [rot_1 (by omega) h4, rot_1 (by omega) (by omega)]
        · rw [rot_hi (by omega), rot_hi (by omega)]
/-- one is moved down by one more place -/
theorem rot_dn : swpK (rotK p (s + 1) n 1) (s + 1) s = rotK p s (n + 1) 1 := by
  funext k
  unfold swpK
  by_cases h1 : k = s
  · subst h1
    rw [if_pos rfl, rot_1 (by omega) (by omega), rot_1 (by omega) (by omega)]; congr 1; omega
  · rw [if_neg h1]
    by_cases h2 : k = s + 1
    · subst h2
      rw [if_pos rfl, rot_lo (by omega), rot_2 (by omega) (by omega)]; rfl
    · rw [if_neg h2]
      by_cases h3 : k < s
      · rw [rot_lo (by omega), rot_lo h3]
      · by_cases h4 : k < s + 1 + 1 + n
        · rw [rot_2 (by omega) h4, rot_2 (by omega) (by omega)]
        · rw [rot_hi (by omega), rot_hi (by omega)]
theorem rot_per {i j : Nat} (ha : a ≤ s) (hb : s + j + i ≤ b) : Per p (rotK p s i j) a b := by
  refine Per.wide (a := s) (b := s + j + i) ⟨fun k hk => ?_, fun x => ⟨?_, ?_⟩⟩ ha hb
  · rcases hk with h | h
    · exact rot_lo h
    · exact rot_hi h
  · rintro ⟨k, h1, h2, rfl⟩
    by_cases h3 : k < s + j
    · exact ⟨k + i, by omega, by omega, (rot_1 h1 h3).symm⟩
    · exact ⟨k - j, by omega, by omega, (rot_2 (by omega) h2).symm⟩
  · rintro ⟨k, h1, h2, rfl⟩
    by_cases h3 : k < s + i
    · exact ⟨k + j, by omega, by omega, by rw [rot_2 (by omega) (by omega)]; congr 1; omega⟩
    · exact ⟨k - i, by omega, by omega, by rw [rot_1 (by omega) (by omega)]; congr 1; omega⟩
/-- what stands from s to m goes behind what stands from m to e: what is left to be merged -/
theorem rot_half (h1 : a ≤ s) (h2 : s ≤ m) (h3 : m ≤ e) (h4 : e ≤ b) (A : Srt L p a m) (B : Srt L p m b) (S : Stb L p a m b) (hc : c = s + (e - m)) (x1 : s = a ∨ e = b ∨ ltK L (p (s - 1)) (p e)) (x2 : e = m ∨ s = m ∨ ltK L (p (e - 1)) (p s)) :
    let q := rotK p s (m - s) (e - m)
    Srt L q a s ∧ Srt L q s c ∧ Stb L q a s c ∧ Srt L q c e ∧ Srt L q e b ∧ Stb L q c e b ∧ Crs L q a c b := by
  intro q
  subst hc
  have q0 : ∀ k, k < s → q k = p k := fun k hk => rot_lo hk
  have q1 : ∀ k, s ≤ k → k < s + (e - m) → q k = p (k + (m - s)) := fun k hk hk2 => rot_1 hk hk2
  have q2 : ∀ k, s + (e - m) ≤ k → k < e → q k = p (k - (e - m)) := fun k hk hk2 => rot_2 hk (by omega)
  have q3 : ∀ k, e ≤ k → q k = p k := fun k hk => rot_hi (by omega)
  refine ⟨?_, ?_, ?_, ?_, ?_, ?_, ?_⟩
  · intro i j hi hij hj
    rw [q0 i (by omega), q0 j hj]; exact A i j hi hij (by omega)
  · intro i j hi hij hj
    rw [q1 i hi (by omega), q1 j (by omega) hj]; exact B _ _ (by omega) (by omega) (by omega)
  · intro i j hi his hsj hj
    rw [q0 i his, q1 j hsj hj]; exact S _ _ hi (by omega) (by omega) (by omega)
  · intro i j hi hij hj
    rw [q2 i hi (by omega), q2 j (by omega) hj]; exact A _ _ (by omega) (by omega) (by omega)
  · intro i j hi hij hj
    rw [q3 i hi, q3 j (by omega)]; exact B _ _ (by omega) hij hj
  · intro i j hi hie hej hj
    rw [q2 i hi hie, q3 j hej]; exact S _ _ (by omega) (by omega) (by omega) hj
  · have le1 : ∀ {P : Prop} {i j : Nat}, (a ≤ i ∧ i ≤ j ∧ j < m) → (i = j → P) → (ltK L (p i) (p j) → P) → P := fun {P} {i j} h f g => by
      by_cases hij : i = j
      · exact f hij
      · exact g (A i j h.1 (by omega) h.2.2)
    have le2 : ∀ {P : Prop} {i j : Nat}, (m ≤ i ∧ i ≤ j ∧ j < b) → (i = j → P) → (ltK L (p i) (p j) → P) → P := fun {P} {i j} h f g => by
      by_cases hij : i = j
      · exact f hij
      · exact g (B i j h.1 (by omega) h.2.2)
    intro i j hi hic hcj hj
    by_cases d1 : i < s
    · rw [q0 i d1]
      by_cases d2 : j < e
      · rw [q2 j hcj d2]; exact A _ _ hi (by omega) (by omega)
      · rw [q3 j (by omega)]
        have hx : ltK L (p (s - 1)) (p e) := by
          rcases x1 with h | h | h
          · omega
          · omega
          · exact h
        have hy : ltK L (p i) (p e) := le1 (i := i) (j := s - 1) ⟨hi, by omega, by omega⟩ (fun h => by rw [h]; exact hx) fun h => ltK_trans h hx
        exact le2 (i := e) (j := j) ⟨by omega, by omega, hj⟩ (fun h => by rw [← h]; exact hy) fun h => ltK_trans hy h
    · rw [q1 i (by omega) hic]
      by_cases d2 : j < e
      · rw [q2 j hcj d2]
        have hx : ltK L (p (e - 1)) (p s) := by
          rcases x2 with h | h | h
          · omega
          · omega
          · exact h
        have hy : ltK L (p (i + (m - s))) (p s) := le2 (i := i + (m - s)) (j := e - 1) ⟨by omega, by omega, by omega⟩ (fun h => by rw [h]; exact hx) fun h => ltK_trans h hx
        exact le1 (i := s) (j := j - (e - m)) ⟨by omega, by omega, by omega⟩ (fun h => by rw [← h]; exact hy) fun h => ltK_trans hy h
      · rw [q3 j (by omega)]; exact B _ _ (by omega) (by omega) hj
/-- one ahead: put in its place -/
theorem rot_one_up (h3 : a + 1 ≤ e) (h4 : e ≤ b) (B : Srt L p (a + 1) b) (x2 : e = a + 1 ∨ ltK L (p (e - 1)) (p a)) (x3 : e = b ∨ ltK L (p a) (p e)) : Srt L (rotK p a 1 (e - (a + 1))) a b := by
  have q1 : ∀ k, a ≤ k → k + 1 < e → rotK p a 1 (e - (a + 1)) k = p (k + 1) := fun k hk hk2 => rot_1 hk (by omega)
  have q2 : rotK p a 1 (e - (a + 1)) (e - 1) = p a := by rw [rot_2 (by omega) (by omega)]; congr 1; omega
  have q3 : ∀ k, e ≤ k → rotK p a 1 (e - (a + 1)) k = p k := fun k hk => rot_hi (by omega)
  intro i j hi hij hj
  by_cases d1 : i + 1 < e
  · rw [q1 i hi d1]
    by_cases d2 : j + 1 < e
    · rw [q1 j (by omega) d2]; exact B _ _ (by omega) (by omega) (by omega)
    · by_cases d3 : j = e - 1
      · rw [d3, q2]
        have hx := x2.resolve_left (by omega)
        by_cases d4 : i + 1 = e - 1
        · rw [d4]; exact hx
        · exact ltK_trans (B (i + 1) (e - 1) (by omega) (by omega) (by omega)) hx
      · rw [q3 j (by omega)]; exact B _ _ (by omega) (by omega) hj
  · by_cases d3 : i = e - 1
    · rw [d3, q2, q3 j (by omega)]
      have hx := x3.resolve_left (by omega)
      by_cases d4 : j = e
      · rw [d4]; exact hx
      · exact ltK_trans hx (B e j (by omega) (by omega) hj)
    · rw [q3 i (by omega), q3 j (by omega)]; exact B _ _ (by omega) hij hj
/-- one behind: put in its place -/
theorem rot_one_dn (h1 : a ≤ s) (h2 : s ≤ m) (A : Srt L p a m) (x1 : s = a ∨ ltK L (p (s - 1)) (p m)) (x3 : s = m ∨ ltK L (p m) (p s)) : Srt L (rotK p s (m - s) 1) a (m + 1) := by
  have q0 : ∀ k, k < s → rotK p s (m - s) 1 k = p k := fun k hk => rot_lo hk
  have q1 : rotK p s (m - s) 1 s = p m := by rw [rot_1 (by omega) (by omega)]; congr 1; omega
  have q2 : ∀ k, s < k → k ≤ m → rotK p s (m - s) 1 k = p (k - 1) := fun k hk hk2 => rot_2 (by omega) (by omega)
  intro i j hi hij hj
  by_cases d1 : i < s
  · rw [q0 i d1]
    by_cases d2 : j < s
    · rw [q0 j d2]; exact A _ _ hi hij (by omega)
    · by_cases d3 : j = s
      · rw [d3, q1]
        have hx := x1.resolve_left (by omega)
        by_cases d4 : i = s - 1
        · rw [d4]; exact hx
        · exact ltK_trans (A i (s - 1) hi (by omega) (by omega)) hx
      · rw [q2 j (by omega) (by omega)]; exact A _ _ hi (by omega) (by omega)
  · by_cases d3 : i = s
    · rw [d3, q1, q2 j (by omega) (by omega)]
      have hx := x3.resolve_left (by omega)
      by_cases d4 : j - 1 = s
      · rw [d4]; exact hx
      · exact ltK_trans hx (A s (j - 1) (by omega) (by omega) (by omega))
    · rw [q2 i (by omega) (by omega), q2 j (by omega) (by omega)]; exact A _ _ (by omega) (by omega) (by omega)
/-- in order up to i, but for place j, which comes ahead of those behind it -/
def MidK (L : List Wri) (p : Nat → Nat) (a i j : Nat) : Prop := (∀ x y, a ≤ x → x < y → y ≤ i → x ≠ j → y ≠ j → ltK L (p x) (p y)) ∧ ∀ y, j < y → y ≤ i → ltK L (p j) (p y)
theorem swp_1 : swpK p (n + 1) n n = p (n + 1) := if_pos rfl
theorem swp_2 : swpK p (n + 1) n (n + 1) = p n := by unfold swpK; rw [if_neg (by omega), if_pos rfl]
theorem swp_o (h1 : x ≠ n) (h2 : x ≠ n + 1) : swpK p (n + 1) n x = p x := by unfold swpK; rw [if_neg h1, if_neg h2]
theorem midK_swp {i : Nat} (M : MidK L p a i (n + 1)) (h0 : a ≤ n) (hj : n + 1 ≤ i) (hlt : ltK L (p (n + 1)) (p n)) : MidK L (swpK p (n + 1) n) a i n := by
  constructor
  · intro x y hx hxy hy hx1 hy1
    by_cases e1 : y = n + 1
    · rw [e1, swp_2, swp_o hx1 (by omega)]
      exact M.1 x n hx (by omega) (by omega) (by omega) (by omega)
    · rw [swp_o hy1 e1]
      by_cases e2 : x = n + 1
      · rw [e2, swp_2]; exact M.1 n y h0 (by omega) hy (by omega) e1
      · rw [swp_o hx1 e2]; exact M.1 x y hx hxy hy e2 e1
  · intro y h1 h2
    rw [swp_1]
    by_cases e : y = n + 1
    · rw [e, swp_2]; exact hlt
    · rw [swp_o (by omega) e]; exact M.2 y (by omega) h2
theorem midK_done {i j : Nat} (M : MidK L p a i j) (hj : j ≤ i) (h : j = a ∨ ltK L (p (j - 1)) (p j)) (ha : a ≤ j) : Srt L p a (i + 1) := by
  intro x y hx hxy hy
  by_cases e1 : x = j
  · rw [e1]; exact M.2 y (by omega) (by omega)
  · by_cases e2 : y = j
    · rw [e2] at hxy ⊢
      have h := h.resolve_left (by omega)
      by_cases e3 : x = j - 1
      · rw [e3]; exact h
      · exact ltK_trans (M.1 x (j - 1) hx (by omega) (by omega) e1 (by omega)) h
    · exact M.1 x y hx hxy (by omega) e1 e2
theorem swp_per (h0 : a ≤ n) (hb : n + 1 < b) : Per p (swpK p (n + 1) n) a b := by
  constructor
  · intro k hk; exact swp_o (by omega) (by omega)
  · intro x
    constructor
    · rintro ⟨k, h1, h2, rfl⟩
      by_cases e1 : k = n
      · exact ⟨n + 1, by omega, by omega, by rw [e1, swp_1]⟩
      · by_cases e2 : k = n + 1
        · exact ⟨n, by omega, by omega, by rw [e2, swp_2]⟩
        · exact ⟨k, h1, h2, (swp_o e1 e2).symm⟩
    · rintro ⟨k, h1, h2, rfl⟩
      by_cases e1 : k = n
      · exact ⟨n + 1, by omega, by omega, by rw [e1, swp_2]⟩
      · by_cases e2 : k = n + 1
        · exact ⟨n, by omega, by omega, by rw [e2, swp_1]⟩
        · exact ⟨k, h1, h2, swp_o e1 e2⟩
def rwK (L : List Wri) (p : Nat → Nat) (n : Nat) : List Wri := (List.range n).map fun i => L.getD (p i) default
theorem rwK_len : (rwK L p n).length = n := by simp [rwK]
theorem rwK_getD (h : x < n) : (rwK L p n).getD x default = L.getD (p x) default := by simp [rwK, List.getD, h]
theorem rwK_set : ((rwK L p n).set a (L.getD (p b) default)).set b (L.getD (p a) default) = rwK L (swpK p a b) n := by
  refine List.ext_getElem (by simp [rwK]) fun i h1 h2 => ?_
  simp only [rwK, List.getElem_set, List.getElem_map, List.getElem_range, swpK]
  by_cases e : b = i
  · subst e; simp
  · rw [if_neg e, if_neg (Ne.symm e)]
    by_cases e2 : a = i
    · subst e2; simp
    · rw [if_neg e2, if_neg (Ne.symm e2)]
theorem rwK_id : rwK L (fun i => i) L.length = L := by
  refine List.ext_getElem (by simp [rwK]) fun i h1 h2 => ?_
  simp [rwK, List.getD, h2]
end
end Go.Ev

set_option maxRecDepth 100000
set_option maxHeartbeats 8000000
set_option linter.all false
namespace Go.Ev
open Go
theorem store_bufN {h : H} {el n : Nat} {v : V} {xs ys vs : List V} {j : Nat} (b : Buf h el n v xs) (tp : Top h v) (hj : j + vs.length ≤ xs.length) (hfit : xs.length < 2 ^ 36) (h1 : allOne vs = true) (hv : 0 < vs.length) (hly : ys.length = xs.length)
    (hys : ∀ i z, ys[i]? = some z → (j ≤ i ∧ vs[i - j]? = some z) ∨ ((i < j ∨ j + vs.length ≤ i) ∧ xs[i]? = some z)) :
    ∃ h', (∀ k, store h (lid v) (lg v) (loff v + j) (lfin v) vs k = k h') ∧ Buf h' el n v ys ∧ Top h' v ∧ Stay (isOf v) h h' := by
  rcases b with ⟨rfl, rfl⟩ | ⟨id, g, m, blk, rfl, b1, b2, b3, b4, b5, b6, b7, b8, b9, b10⟩
  · simp at hj; rw [hj.2] at hv; cases hv
  obtain ⟨blk', b5', hcur⟩ := tp id g 0 m xs.length none rfl
  have hbb : blk' = blk := by rw [b5] at b5'; exact (Option.some.inj b5').symm
  subst hbb
  obtain ⟨next, floor, heap⟩ := h
  obtain ⟨cur, min, sz, cells, bel, fr⟩ := blk'
  simp only at b6 b7 b8 b9 b10 hcur
  subst hcur; subst b9
  obtain ⟨tr, t1, t2, t3⟩ := setList_fine vs j cells (by omega)
  obtain ⟨hp, s1, s2, s3⟩ := setK_ok id (⟨cur, cur, sz, tr, bel, 0⟩ : Blk) heap
  have e1 : B.geB floor id = true := by cases floor <;> first | rfl | (show Nat.ble _ _ = true; rw [Nat.ble_eq]; exact b3)
  have e2 : Nat.ble (Nat.add j vs.length) xs.length = true := by rw [Nat.ble_eq]; exact hj
  have e4 : frOk 0 j = true := rfl
  have e5 : Nat.beq cur cur = true := Nat.beq_refl cur
  have e6 : Nat.ble min cur = true := by rw [Nat.ble_eq]; exact b6.1
  have b5'' : heap.get id = some ⟨cur, min, sz, cells, bel, 0⟩ := b5
  refine ⟨⟨next, floor, hp⟩, fun k => ?_, .inr ⟨id, cur, m, _, by rw [hly], b1, by rw [hly]; exact b2, b3, b4, s2, ⟨Nat.le_refl _, Nat.le_refl _⟩, by rw [hly]; exact b7, b8, rfl, fun i z hz => ?_⟩, fun _ _ _ _ _ _ e => by cases e; exact ⟨_, s2, rfl⟩, ⟨rfl, Nat.le_refl _, fun id' _ hne => s3 id' fun e => hne (by subst e; exact ⟨_, _, _, _, _, rfl⟩)⟩⟩
  · show store ⟨next, floor, heap⟩ id cur (0 + j) xs.length vs k = _
    rw [Nat.zero_add]
    simp only [store, hK_mk, b5'', optK_some, blkK_mk, e5, e6, e1, e2, h1, e4, ifK_true]
    rw [t1, s1]
  · show tr.getN i = some z
    rcases hys i z hz with ⟨h2, h3⟩ | ⟨h2, h3⟩
    · have := t2 (i - j) z h3
      rwa [show j + (i - j) = i by omega] at this
    · rw [t3 i (by omega)]
      exact b10 i z h3
theorem set_cells {α : Type} [Inhabited α] {n : Nat} {c : α → List V} (hc : ∀ e, (c e).length = n) (hn : 1 ≤ n) {L : List α} {j : Nat} (hj : j < L.length) {x : α} : ∀ i z, ((L.set j x).flatMap c)[i]? = some z → (j * n ≤ i ∧ (c x)[i - j * n]? = some z) ∨ ((i < j * n ∨ j * n + (c x).length ≤ i) ∧ (L.flatMap c)[i]? = some z) := by
  intro i z hz
  have hil : i < L.length * n := by
    have h1 := (List.getElem?_eq_some_iff.1 hz).1
    rw [fm_len hc, List.length_set] at h1; exact h1
  have hd : i % n < n := Nat.mod_lt _ hn
  have hi : i = i / n * n + i % n := by rw [Nat.mul_comm]; exact (Nat.div_add_mod i n).symm
  have hq : i / n < L.length := (Nat.div_lt_iff_lt_mul hn).2 hil
  generalize i / n = q at *
  generalize i % n = d at *
  subst hi
  rw [fm_get hc (by rw [List.length_set]; exact hq) hd] at hz
  by_cases e : q = j
  · left
    subst e
    refine ⟨by omega, ?_⟩
    rw [show q * n + d - q * n = d by omega, ← hz]
    have : (L.set q x).getD q default = x := by simp [List.getD, hq]
    rw [this]
    have hdl : d < (c x).length := by rw [hc]; exact hd
    simp [List.getD, hdl]
  · right
    rw [fm_get hc hq hd, ← hz]
    refine ⟨?_, ?_⟩
    · rw [hc]
      rcases Nat.lt_or_gt_of_ne e with h | h
      · left
        have : (q + 1) * n ≤ j * n := Nat.mul_le_mul_right n h
        rw [Nat.add_mul] at this; omega
      · right
        have : (j + 1) * n ≤ q * n := Nat.mul_le_mul_right n h
        rw [Nat.add_mul] at this; omega
    · have : (L.set j x).getD q default = L.getD q default := by
        rw [List.getD_eq_getElem?_getD, List.getElem?_set_ne (fun h => e h.symm), ← List.getD_eq_getElem?_getD]
      rw [this]
/-- l[j] = x, of structs, where l grew and is the newest of its block -/
theorem st_bufS {P : Program} {α : Type} [Inhabited α] {n el : Nat} {c : α → List V} {h : H} {N : Nx} {v : V} {L : List α} {j : Nat} {x : α} (b : Buf h el n v (L.flatMap c)) (tp : Top h v) (hc : ∀ e, (c e).length = n) (hn : 1 ≤ n) (hj : j < L.length) (hl : L.length * n < 2 ^ 36) (h1 : allOne (c x) = true)
    (k : ∀ h', Buf h' el n v ((L.set j x).flatMap c) → Top h' v → Stay (isOf v) h h' → N.go P (.tu []) h') : ST P n (.p (lid v) (lg v) (loff v + j * n) (lfin v)) (.a (c x)) h N := by
  have hjn : (j + 1) * n ≤ L.length * n := Nat.mul_le_mul_right n hj
  rw [Nat.add_mul] at hjn
  obtain ⟨h', a1, a2, a3, a4⟩ := store_bufN (j := j * n) (vs := c x) (ys := (L.set j x).flatMap c) b tp (by rw [hc, fm_len hc]; omega) (by rw [fm_len hc]; exact hl) h1 (by rw [hc]; omega) (by rw [fm_len hc, fm_len hc, List.length_set]) (set_cells hc hn hj)
  refine hm_of (v := .tu []) (h' := h') (fun k => ?_) (k h' a2 a3 a4)
  show ifK (Nat.beq (c x).length n) (fun _ => store h _ _ _ _ (c x) fun h => k (.tu []) h) = _
  rw [hc, Nat.beq_refl, ifK_true, a1]
end Go.Ev

set_option linter.all false
namespace Go.Ev
open Go
/-- less of a block's cells -/
theorem Own.pre {h : H} {id : B} {xs ys : List V} (o : Own h id (xs ++ ys)) : Own h id xs := by
  obtain ⟨blk, h1, h2, h3, h4, h5, h6, h7⟩ := o
  refine ⟨blk, h1, h2, h3, h4, h5, h6, fun i y hy => h7 i y ?_⟩
  have hi := (List.getElem?_eq_some_iff.1 hy).1
  rw [List.getElem?_append_left hi]; exact hy
theorem Own.none {h : H} {id : B} {xs : List V} (o : Own h id xs) : Own h id [] := Own.pre (xs := []) (ys := xs) o
/-- cells stored behind those that are known -/
theorem store_end {h : H} {id : B} {xs vs : List V} {fin : Nat} (o : Own h id xs) (hj : xs.length + vs.length ≤ fin) (hfit : fin < 2 ^ 37) (h1 : allOne vs = true) : ∃ h', (∀ k, store h id 0 xs.length fin vs k = k h') ∧ Own h' id (xs ++ vs) ∧ Stay (fun i => i = id) h h' := by
  obtain ⟨blk, a1, a2, a3, a4, a5, a6, a7⟩ := o
  obtain ⟨next, floor, heap⟩ := h
  obtain ⟨cur, min, sz, cells, bel, fr⟩ := blk
  simp only at a2 a3 a4 a7
  subst a2; subst a3; subst a4
  obtain ⟨tr, t1, t2, t3⟩ := setList_fine vs xs.length cells (by omega)
  obtain ⟨hp, s1, s2, s3⟩ := setK_ok id (⟨0, 0, sz, tr, bel, 0⟩ : Blk) heap
  have e1 : B.geB floor id = true := by cases floor <;> first | rfl | (show Nat.ble _ _ = true; rw [Nat.ble_eq]; exact a5)
  have e2 : Nat.ble (Nat.add xs.length vs.length) fin = true := by rw [Nat.ble_eq]; exact hj
  have e4 : frOk 0 xs.length = true := rfl
  have e5 : Nat.beq 0 0 = true := rfl
  have e6 : Nat.ble 0 0 = true := rfl
  have a1' : heap.get id = some ⟨0, 0, sz, cells, bel, 0⟩ := a1
  refine ⟨⟨next, floor, hp⟩, fun k => ?_, ⟨_, s2, rfl, rfl, rfl, a5, a6, fun i z hz => ?_⟩, ⟨rfl, Nat.le_refl _, fun i _ hi => s3 i hi⟩⟩
  · simp only [store, hK_mk, a1', optK_some, blkK_mk, e5, e6, e1, e2, h1, e4, ifK_true]
    rw [t1, s1]
  · show tr.getN i = some z
    by_cases hi : i < xs.length
    · rw [List.getElem?_append_left hi] at hz
      rw [t3 i (by omega)]; exact a7 i z hz
    · rw [List.getElem?_append_right (by omega)] at hz
      have := t2 _ z hz
      rwa [show xs.length + (i - xs.length) = i by omega] at this
section
variable {P : Program} {h : H} {N : Nx} {id : B} {el size cnt len c : Nat} {x : V} {xs vs : List V}
/-- in place: there is room -/
theorem AP.made (o : Own h id xs) (hlen : xs.length = len * size) (hx : ∀ k : Nat → List V → Bool, newCells size x h k = k cnt vs) (hn : vs.length = cnt * size) (h1 : allOne vs = true) (hc : len + cnt ≤ c) (hfit : c * size < 2 ^ 37) (hcb : c < 18446744073709551616)
    (k : ∀ h', Own h' id (xs ++ vs) → Stay (fun i => i = id) h h' → N.go P (.l id 0 0 (len + cnt) (c * size) (some c)) h') : AP P el size (.l id 0 0 len (c * size) (some c)) x h N := by
  have hle : Nat.ble (Nat.add len cnt) c = true := by rw [Nat.ble_eq]; exact hc
  have hmul := Nat.mul_le_mul_right size hc
  rw [Nat.add_mul] at hmul
  cases cnt with
  | zero =>
    have hv : vs = [] := List.eq_nil_of_length_eq_zero (by rw [hn, Nat.zero_mul])
    subst hv
    refine hm_of (v := .l id 0 0 (len + 0) (c * size) (some c)) (h' := h) (fun q => ?_) (k h (by rw [List.append_nil]; exact o) ⟨rfl, Nat.le_refl _, fun _ _ _ => rfl⟩)
    rw [hx]
    show boolK (flagB c) _ (fun _ => boolK (Nat.ble (Nat.add len 0) c) (fun _ => appIn id 0 0 len (c * size) c size 0 [] h q) _) = _
    rw [flagB_of hcb, boolK_false, hle]; rfl
  | succ m =>
    obtain ⟨h', a1, a2, a3⟩ := store_end o (vs := vs) (fin := c * size) (by omega) hfit h1
    refine hm_of (v := .l id 0 0 (len + (m + 1)) (c * size) (some c)) (h' := h') (fun q => ?_) (k h' a2 a3)
    rw [hx]
    show boolK (flagB c) _ (fun _ => boolK (Nat.ble (Nat.add len (m + 1)) c) (fun _ => appIn id 0 0 len (c * size) c size (m + 1) vs h q) _) = _
    rw [flagB_of hcb, boolK_false, hle]
    show store h id 0 (Nat.add 0 (Nat.mul len size)) (c * size) vs (fun h => fN (Nat.add len (m + 1)) fun l' => q (.l id 0 0 l' (c * size) (some c)) h) = _
    rw [show Nat.add 0 (Nat.mul len size) = xs.length by rw [hlen]; show 0 + len * size = _; omega, a1, fN_eq]
    rfl
/-- append(S{}, s...): a new block, or the empty one -/
theorem AP.e1 {g off fin : Nat} (hx : ∀ k : Nat → List V → Bool, newCells size x h k = k cnt vs) (hf : B.val h.floor ≤ B.val h.next) (hn : vs.length = cnt * size) (hl : cnt ≤ 1048576) (hl2 : vs.length < 2 ^ 38)
    (k0 : cnt = 0 → N.go P (.l id g off 0 fin (some 0)) h)
    (k : ∀ h', 1 ≤ cnt → Stay nowhere h h' → B.val h'.next = B.val h.next + 1 → Buf h' el size (.l h.next 0 0 cnt vs.length none) vs → Top h' (.l h.next 0 0 cnt vs.length none) → N.go P (.l h.next 0 0 cnt vs.length none) h') : AP P el size (.l id g off 0 fin (some 0)) x h N := by
  cases cnt with
  | zero =>
    have hv : vs = [] := List.eq_nil_of_length_eq_zero (by rw [hn, Nat.zero_mul])
    subst hv
    exact hm_of (v := .l id g off 0 fin (some 0)) (h' := h) (fun q => by rw [hx]; rfl) (k0 rfl)
  | succ m =>
  obtain ⟨h', a1, a2, a3, blk, b1, b2, b3, b4, b5, b6, b7⟩ := alloc_new el vs h hl2
  have hble : Nat.ble (Nat.add 0 (m + 1)) 1048576 = true := by rw [Nat.ble_eq]; show 0 + (m + 1) ≤ _; omega
  have hno : Nat.ble (Nat.add 0 (m + 1)) 0 = false := by
    cases hx : Nat.ble (Nat.add 0 (m + 1)) 0 with
    | false => rfl
    | true => have := Nat.le_of_ble_eq_true hx; have h2 : 0 + (m + 1) ≤ 0 := this; omega
  refine hm_of (v := .l h.next 0 0 (m + 1) vs.length none) (h' := h') (fun q => ?_) (k h' (by omega) a2 a3 (.inr ⟨h.next, 0, m + 1, blk, rfl, by omega, hn, by rw [a2.floor]; exact hf, by omega, b1, ⟨by omega, by omega⟩, b4, b5, b6, b7⟩) ?_)
  · rw [hx]
    show boolK (flagB 0) (fun _ => appGrow (selB (Nat.ble 1 0) (Nat.beq size 1)) el id g off 0 fin size (m + 1) vs h q) (fun _ => boolK (Nat.ble (Nat.add 0 (m + 1)) 0) (fun _ => appIn id g off 0 fin 0 size (m + 1) vs h q) fun _ => appOut el id g off 0 fin size (m + 1) vs h q) = _
    rw [flagB_of (by omega), boolK_false, hno, boolK_false]
    unfold appOut
    rw [hble, ifK_true]
    show alloc el (app [] vs) h (fun id h => fN (Nat.add 0 (m + 1)) fun l' => fN (Nat.mul l' size) fun fin' => q (.l id 0 0 l' fin' none) h) = _
    rw [app_eq, List.nil_append, a1, fN_eq, fN_eq]
    show q (.l h.next 0 0 (0 + (m + 1)) ((0 + (m + 1)) * size) none) h' = _
    rw [Nat.zero_add, ← hn]
  · intro id' g off n fin cap e
    cases e
    exact ⟨blk, b1, b3⟩
end
end Go.Ev

set_option maxRecDepth 100000
set_option maxHeartbeats 8000000
set_option linter.all false
namespace Go.Proofs.Ythncpgkpkdolfaa
open Go Go.Ev
theorem cloneW0_ok {h : H} : FnOk Try.prog 38 [.l0] h fun y h' => y = .l0 ∧ h' = h := by
  refine fn_go c38 (by intro hb; cases hb) (by simp) (by simp) fun Q hQ => ?_
  simp only [slotsF, Nat.reduceAdd]
  repeat' (first
    | refine St.h ?_
    | simp (disch := first | omega | (simp only [lnv]; omega)) only [wlk, ↓get_put', ↓reduceIte, seval]
    | (with_reducible (first | apply cd_split | apply gd_split)) <;> (intro hc; (try simp only [hcn] at hc); (try simp only [hc]); (try simp only [hcl] at hc); try omega))
  subst hQ
  exact ⟨rfl, rfl⟩
/-- a row of one's own that is the newest of its block -/
def Rw (h : H) (v : V) (M : List Wri) : Prop := Buf h 49 3 v (M.flatMap wriC) ∧ Top h v
theorem Rw.ws {h : H} {v : V} {M : List Wri} (a : Rw h v M) : Ws h v M := Ss.buf a.1 rfl wriC_len (by omega)
theorem Rw.grow {h h' : H} {v : V} {M : List Wri} (a : Rw h v M) (s : Stay nowhere h h') : Rw h' v M := ⟨a.1.grow s, a.2.stay s (fun q hq => (a.1.own hq).2) fun _ _ e => e⟩
/-- what comes of a clone of writes -/
def ClW (h h' : H) (y : V) (L : List Wri) : Prop := (L = [] ∧ Ws h' y [] ∧ SwN 3 y) ∨ (L ≠ [] ∧ Rw h' y L ∧ SwN 3 y ∧ ∀ q, isOf y q → B.val h.next ≤ B.val q)
theorem cloneW1_ok {h : H} {id : B} {gg off len fin : Nat} {cap : Option Nat} {L : List Wri} (hL : Ws h (.l id gg off len fin cap) L) (hl : L.length ≤ 100000) (hf : B.val h.floor ≤ B.val h.next) : FnOk Try.prog 38 [.l id gg off len fin cap] h fun y h' => ClW h h' y L ∧ Stay nowhere h h' := by
  refine fn_go c38 (by intro hb; cases hb) (by simp) (by simp) fun Q hQ => ?_
  simp only [slotsF, Nat.reduceAdd]
  repeat' (first
    | refine St.h ?_
    | simp (disch := first | omega | (simp only [lnv]; omega)) only [wlk, ↓get_put', ↓reduceIte, seval]
    | (with_reducible (first | apply cd_split | apply gd_split)) <;> (intro hc; (try simp only [hcn] at hc); (try simp only [hc]); (try simp only [hcl] at hc); try omega))
  refine AL.own (by simp) hf fun h1 s1 n1 o1 => ?_
  have hf1 := s1.fl hf
  repeat' (first
    | refine St.h ?_
    | simp (disch := first | omega | (simp only [lnv]; omega)) only [wlk, ↓get_put', ↓reduceIte, seval]
    | (with_reducible (first | apply cd_split | apply gd_split)) <;> (intro hc; (try simp only [hcn] at hc); (try simp only [hc]); (try simp only [hcl] at hc); try omega))
  refine AP.e1 (new_ss (hL.grow s1) wriC_len (by omega)) hf1 (fm_len wriC_len L) (by omega) (by rw [fm_len wriC_len L]; omega) (fun e => ?_) fun h2 e s2 n2 b2 tp2 => ?_
  · have : L = [] := List.eq_nil_of_length_eq_zero e
    subst this
    repeat' (first
      | refine St.h ?_
      | simp (disch := first | omega | (simp only [lnv]; omega)) only [wlk, ↓get_put', ↓reduceIte, seval]
      | (with_reducible (first | apply cd_split | apply gd_split)) <;> (intro hc; (try simp only [hcn] at hc); (try simp only [hc]); (try simp only [hcl] at hc); try omega))
    subst hQ
    exact ⟨.inl ⟨rfl, Ss.lit o1 rfl wriC_len rfl (by simp), .inr ⟨_, _, _, _, _, _, rfl, by simp⟩⟩, s1⟩
  · repeat' (first
      | refine St.h ?_
      | simp (disch := first | omega | (simp only [lnv]; omega)) only [wlk, ↓get_put', ↓reduceIte, seval]
      | (with_reducible (first | apply cd_split | apply gd_split)) <;> (intro hc; (try simp only [hcn] at hc); (try simp only [hc]); (try simp only [hcl] at hc); try omega))
    subst hQ
    refine ⟨.inr ⟨fun e2 => by rw [e2] at e; simp at e, ⟨b2, tp2⟩, swn_buf12 b2, ?_⟩, s1.trans s2⟩
    rintro q ⟨_, _, _, _, _, e⟩
    cases e; exact s1.next
theorem cloneW_ok {h : H} {v : V} {L : List Wri} (hL : Ws h v L) (hl : L.length ≤ 100000) (hf : B.val h.floor ≤ B.val h.next) : FnOk Try.prog 38 [v] h fun y h' => ClW h h' y L ∧ Stay nowhere h h' := by
  have hL0 := hL
  rcases hL with ⟨rfl, rfl⟩ | ⟨id, gg, off, fin, cap, rfl, hh⟩
  · exact cloneW0_ok.mono fun y h' ⟨a, b⟩ => by rw [a, b]; exact ⟨.inl ⟨rfl, Ss.nil, .inl rfl⟩, Stay.refl _ _⟩
  · exact cloneW1_ok hL0 hl hf
theorem bcmp_ok {h : H} {x y : List UInt8} : FnOk Try.prog 59 [sv x, sv y] h fun z h' => z = .i .i64 (cmpI (decide (x = y)) (Op.bytesLess x y)) ∧ h' = h := by
  refine fn_go c59 (by intro hb; cases hb) (by simp) (by simp) fun Q hQ => ?_
  simp only [slotsF, Nat.reduceAdd]
  repeat' (first
    | refine St.h ?_
    | simp (disch := first | omega | (simp only [lnv]; omega)) only [wlk, ↓get_put', ↓reduceIte, seval]
    | (with_reducible (first | apply cd_split | apply gd_split)) <;> (intro hc; (try simp only [hcn] at hc); (try simp only [hc]); (try simp only [hcl] at hc); try omega))
  subst hQ
  exact ⟨rfl, rfl⟩
theorem scompare_ok {h : H} {x y : List UInt8} : FnOk Try.prog 52 [sv x, sv y] h fun z h' => z = .i .i64 (cmpI (decide (x = y)) (Op.bytesLess x y)) ∧ h' = h := by
  refine fn_go c52 (by intro hb; cases hb) (by simp) (by simp) fun Q hQ => ?_
  simp only [slotsF, Nat.reduceAdd]
  repeat' (first
    | refine St.h ?_
    | simp (disch := first | omega | (simp only [lnv]; omega)) only [wlk, ↓get_put', ↓reduceIte, seval]
    | (with_reducible (first | apply cd_split | apply gd_split)) <;> (intro hc; (try simp only [hcn] at hc); (try simp only [hc]); (try simp only [hcl] at hc); try omega))
  refine CL.pure bcmp_ok ?_
  repeat' (first
    | refine St.h ?_
    | simp (disch := first | omega | (simp only [lnv]; omega)) only [wlk, ↓get_put', ↓reduceIte, seval]
    | (with_reducible (first | apply cd_split | apply gd_split)) <;> (intro hc; (try simp only [hcn] at hc); (try simp only [hc]); (try simp only [hcl] at hc); try omega))
  subst hQ
  exact ⟨rfl, rfl⟩
def cmpW (a b : Wri) : Int := cmpI (decide (a.key = b.key)) (Op.bytesLess a.key b.key)
theorem cmpW_t {L : List Wri} {x y : Nat} (h : klK L x y = true) : (cmpW (L.getD x default) (L.getD y default) < 0) = True := by
  unfold klK at h
  unfold cmpW; rw [h, decide_eq_false (bl_ne h)]; exact eq_true (by decide)
theorem cmpW_f {L : List Wri} {x y : Nat} (h : klK L x y = false) : (cmpW (L.getD x default) (L.getD y default) < 0) = False := by
  unfold klK at h
  unfold cmpW; rw [h]
  by_cases e : (L.getD x default).key = (L.getD y default).key
  · rw [decide_eq_true e]; exact eq_false (by decide)
  · rw [decide_eq_false e]; exact eq_false (by decide)
theorem byKey12_ok {h : H} {a b : Wri} (hf : B.val h.floor ≤ B.val h.next) : FnOk Try.prog 40 [.a [sv a.key, .b a.del, sv a.val], .a [sv b.key, .b b.del, sv b.val]] h fun y h' => y = .i .i64 (cmpW a b) ∧ Stay nowhere h h' := by
  refine fn_go c40 (by intro hb; cases hb) (by simp) (by simp) fun Q hQ => ?_
  simp only [slotsF, Nat.reduceAdd]
  repeat' (first
    | refine St.h ?_
    | simp (disch := first | omega | (simp only [lnv]; omega)) only [wlk, ↓get_put', ↓reduceIte, seval]
    | (with_reducible (first | apply cd_split | apply gd_split)) <;> (intro hc; (try simp only [hcn] at hc); (try simp only [hc]); (try simp only [hcl] at hc); try omega))
  refine AL.own (by simp) hf fun h1 s1 n1 o1 => ?_
  repeat' (first
    | refine St.h ?_
    | simp (disch := first | omega | (simp only [lnv]; omega)) only [wlk, ↓get_put', ↓reduceIte, seval]
    | (with_reducible (first | apply cd_split | apply gd_split)) <;> (intro hc; (try simp only [hcn] at hc); (try simp only [hc]); (try simp only [hcl] at hc); try omega))
  refine AL.own (by simp) (s1.fl hf) fun h2 s2 n2 o2 => ?_
  have o1 := o1.stay s2 fun h => h
  repeat' (first
    | refine St.h ?_
    | simp (disch := first | omega | (simp only [lnv]; omega)) only [wlk, ↓get_put', ↓reduceIte, seval, o1.row.l1, o2.row.l1]
    | (with_reducible (first | apply cd_split | apply gd_split)) <;> (intro hc; (try simp only [hcn] at hc); (try simp only [hc]); (try simp only [hcl] at hc); try omega))
  refine CL.pure scompare_ok ?_
  repeat' (first
    | refine St.h ?_
    | simp (disch := first | omega | (simp only [lnv]; omega)) only [wlk, ↓get_put', ↓reduceIte, seval]
    | (with_reducible (first | apply cd_split | apply gd_split)) <;> (intro hc; (try simp only [hcn] at hc); (try simp only [hc]); (try simp only [hcl] at hc); try omega))
  subst hQ
  exact ⟨rfl, s1.trans s2⟩
section
variable {L : List Wri} {N : Nat} {c : V}
theorem swapR_ok {h : H} {v : V} {p : Nat → Nat} {a b k : Nat} (hb : Rw h v (rwK L p N)) (hN : N ≤ 1000) (h1 : a + k ≤ b) (h2 : b + k ≤ N) (hf : B.val h.floor ≤ B.val h.next) : FnOk Try.prog 62 [v, .i .i64 (a : Int), .i .i64 (b : Int), .i .i64 (k : Int), c] h fun y h' =>
    Rw h' v (rwK L (blcK p a b k) N) ∧ Stay (isOf v) h h' := by
  refine fn_go c62 (by intro hb; cases hb) (by simp) (by simp) fun Q hQ => ?_
  simp only [slotsF, Nat.reduceAdd]
  repeat' (first
    | refine St.h ?_
    | simp (disch := first | omega | (simp only [lnv]; omega)) only [wlk, ↓get_put', ↓reduceIte, seval]
    | (with_reducible (first | apply cd_split | apply gd_split)) <;> (intro hc; (try simp only [hcn] at hc); (try simp only [hc]); (try simp only [hcl] at hc); try omega))
  refine Ok.lp (fun m t g => ∃ i : Nat, m = k - i ∧ i ≤ k ∧ get 0 t = v ∧ get 1 t = .i .i64 (a : Int) ∧ get 2 t = .i .i64 (b : Int) ∧ get 3 t = .i .i64 (k : Int) ∧ get 10 t = .i .i64 (i : Int) ∧ Rw g v (rwK L (blcK p a b i) N) ∧ Stay (isOf v) h g) k ?_ ?_
  · simp (disch := first | omega | (simp only [lnv]; omega)) only [wlk, ↓get_put', ↓reduceIte, seval]
    refine ⟨0, by omega, by omega, ?_⟩
    refine ⟨?_, ?_, ?_, ?_, ?_, by rw [blc_zero]; exact hb, ⟨rfl, Nat.le_refl _, fun _ _ _ => rfl⟩⟩
    all_goals first | trivial | rfl
  rintro I hI m t g ⟨i, rfl, hi, f0, f1, f2, f3, f10, rb, st⟩
  have hfg := st.fl hf
  by_cases hik : i < k
  case neg =>
    obtain rfl : i = k := by omega
    repeat' (first
      | refine St.h ?_
      | simp (disch := first | omega | (simp only [lnv]; omega)) only [wlk, ↓get_put', ↓reduceIte, seval, f0, f1, f2, f3, f10]
      | (with_reducible (first | apply cd_split | apply gd_split)) <;> (intro hc; (try simp only [hcn] at hc); (try simp only [hc]); (try simp only [hcl] at hc); try omega))
    subst hQ
    exact ⟨rb, st⟩
  have ea : ((a : Int) + (i : Int)).toNat = a + i := by omega
  have eb : ((b : Int) + (i : Int)).toNat = b + i := by omega
  have W1 := rb.ws
  have ln : (rwK L (blcK p a b i) N).length = N := rwK_len
  have ga : (rwK L (blcK p a b i) N).getD (a + i) default = L.getD (blcK p a b i (a + i)) default := rwK_getD (by omega)
  have gb : (rwK L (blcK p a b i) N).getD (b + i) default = L.getD (blcK p a b i (b + i)) default := rwK_getD (by omega)
  repeat' (first
    | refine St.h ?_
    | simp (disch := first | omega | (simp only [lnv]; omega)) only [wlk, ↓get_put', ↓reduceIte, seval, f0, f1, f2, f3, f10, W1.ix, W1.la, ea, eb, ga, gb, Int.toNat_natCast]
    | (with_reducible (first | apply cd_split | apply gd_split)) <;> (intro hc; (try simp only [hcn] at hc); (try simp only [hc]); (try simp only [hcl] at hc); try omega))
  refine st_bufS (c := wriC) (x := L.getD (blcK p a b i (b + i)) default) rb.1 rb.2 wriC_len (by omega) (by omega) (by omega) rfl fun h3 B3 T3 s3 => ?_
  have W3 : Ws h3 v ((rwK L (blcK p a b i) N).set (a + i) (L.getD (blcK p a b i (b + i)) default)) := Ss.buf B3 rfl wriC_len (by omega)
  repeat' (first
    | refine St.h ?_
    | simp (disch := first | omega | (simp only [lnv]; omega)) only [wlk, ↓get_put', ↓reduceIte, seval, f0, f1, f2, f3, f10, eb, W3.ix]
    | (with_reducible (first | apply cd_split | apply gd_split)) <;> (intro hc; (try simp only [hcn] at hc); (try simp only [hc]); (try simp only [hcl] at hc); try omega))
  refine st_bufS (c := wriC) (x := L.getD (blcK p a b i (a + i)) default) B3 T3 wriC_len (by omega) (by rw [List.length_set]; omega) (by rw [List.length_set]; omega) rfl fun h4 B4 T4 s4 => ?_
  rw [rwK_set, blc_succ (by omega)] at B4
  repeat' (first
    | refine St.h ?_
    | simp (disch := first | omega | (simp only [lnv]; omega)) only [wlk, ↓get_put', ↓reduceIte, seval, f0, f1, f2, f3, f10]
    | (with_reducible (first | apply cd_split | apply gd_split)) <;> (intro hc; (try simp only [hcn] at hc); (try simp only [hc]); (try simp only [hcl] at hc); try omega))
  refine lp_next hI (k - (i + 1)) (by omega) ⟨i + 1, rfl, by omega, by simp (disch := first | omega | (simp only [lnv]; omega)) only [wlk, ↓get_put', ↓reduceIte, seval, f0], by simp (disch := first | omega | (simp only [lnv]; omega)) only [wlk, ↓get_put', ↓reduceIte, seval, f1], by simp (disch := first | omega | (simp only [lnv]; omega)) only [wlk, ↓get_put', ↓reduceIte, seval, f2], by simp (disch := first | omega | (simp only [lnv]; omega)) only [wlk, ↓get_put', ↓reduceIte, seval, f3], by simp (disch := first | omega | (simp only [lnv]; omega)) only [wlk, ↓get_put', ↓reduceIte, seval, f10]; rfl, ⟨B4, T4⟩, st.trans (s3.trans s4)⟩
theorem rot_ok {h : H} {v : V} {p : Nat → Nat} {a m b : Nat} (hb : Rw h v (rwK L p N)) (hN : N ≤ 1000) (h1 : a < m) (h2 : m < b) (h3 : b ≤ N) (hf : B.val h.floor ≤ B.val h.next) : FnOk Try.prog 60 [v, .i .i64 (a : Int), .i .i64 (m : Int), .i .i64 (b : Int), c] h fun y h' =>
    Rw h' v (rwK L (rotK p a (m - a) (b - m)) N) ∧ Stay (isOf v) h h' := by
  have e1 : (m : Int) - (a : Int) = ((m - a : Nat) : Int) := by omega
  have e2 : (b : Int) - (m : Int) = ((b - m : Nat) : Int) := by omega
  refine fn_go c60 (by intro hb; cases hb) (by simp) (by simp) fun Q hQ => ?_
  simp only [slotsF, Nat.reduceAdd]
  repeat' (first
    | refine St.h ?_
    | simp (disch := first | omega | (simp only [lnv]; omega)) only [wlk, ↓get_put', ↓reduceIte, seval]
    | (with_reducible (first | apply cd_split | apply gd_split)) <;> (intro hc; (try simp only [hcn] at hc); (try simp only [hc]); (try simp only [hcl] at hc); try omega))
  refine Ok.lp (fun k t g => ∃ (i j : Nat) (q : Nat → Nat), k = i + j ∧ 1 ≤ i ∧ 1 ≤ j ∧ i ≤ m - a ∧ j ≤ b - m ∧ get 0 t = v ∧ get 2 t = .i .i64 (m : Int) ∧ get 4 t = c ∧ get 10 t = .i .i64 (i : Int) ∧ get 11 t = .i .i64 (j : Int) ∧ rotK q (m - i) i j = rotK p a (m - a) (b - m) ∧ Rw g v (rwK L q N) ∧ Stay (isOf v) h g) (b - a) ?_ ?_
  · simp (disch := first | omega | (simp only [lnv]; omega)) only [wlk, ↓get_put', ↓reduceIte, seval, e1, e2]
    refine ⟨m - a, b - m, p, by omega, by omega, by omega, by omega, by omega, ?_⟩
    refine ⟨?_, ?_, ?_, ?_, ?_, by rw [show m - (m - a) = a by omega], hb, ⟨rfl, Nat.le_refl _, fun _ _ _ => rfl⟩⟩
    all_goals first | trivial | rfl
  rintro I hI k t g ⟨i, j, q, rfl, hi, hj, hi2, hj2, f0, f2, f4, f10, f11, hr, rb, st⟩
  have hfg := st.fl hf
  have em : (m : Int) - (i : Int) = ((m - i : Nat) : Int) := by omega
  by_cases hij : i = j
  · subst hij
    have d1 : ((i : Int) = (i : Int)) = True := eq_true rfl
    repeat' (first
      | refine St.h ?_
      | simp (disch := first | omega | (simp only [lnv]; omega)) only [wlk, ↓get_put', ↓reduceIte, seval, f0, f2, f4, f10, f11, d1, em]
      | (with_reducible (first | apply cd_split | apply gd_split)) <;> (intro hc; (try simp only [hcn] at hc); (try simp only [hc]); (try simp only [hcl] at hc); try omega))
    refine CL.mk (swapR_ok (c := c) (a := m - i) (b := m) (k := i) rb hN (by omega) (by omega) hfg) ?_
    rintro y g1 ⟨rb1, s1⟩
    repeat' (first
      | refine St.h ?_
      | simp (disch := first | omega | (simp only [lnv]; omega)) only [wlk, ↓get_put', ↓reduceIte, seval]
      | (with_reducible (first | apply cd_split | apply gd_split)) <;> (intro hc; (try simp only [hcn] at hc); (try simp only [hc]); (try simp only [hcl] at hc); try omega))
    subst hQ
    have := rot_eq (p := q) (s := m - i) (i := i)
    rw [show m - i + i = m by omega, hr] at this
    rw [this] at rb1
    exact ⟨rb1, st.trans s1⟩
  have d1 : ((i : Int) = (j : Int)) = False := eq_false (by omega)
  by_cases hgt : j < i
  · have d2 : ((j : Int) < (i : Int)) = True := eq_true (by omega)
    have e3 : (i : Int) - (j : Int) = ((i - j : Nat) : Int) := by omega
    repeat' (first
      | refine St.h ?_
      | simp (disch := first | omega | (simp only [lnv]; omega)) only [wlk, ↓get_put', ↓reduceIte, seval, f0, f2, f4, f10, f11, d1, d2, em]
      | (with_reducible (first | apply cd_split | apply gd_split)) <;> (intro hc; (try simp only [hcn] at hc); (try simp only [hc]); (try simp only [hcl] at hc); try omega))
    refine CL.mk (swapR_ok (c := c) (a := m - i) (b := m) (k := j) rb hN (by omega) (by omega) hfg) ?_
    rintro y g1 ⟨rb1, s1⟩
    repeat' (first
      | refine St.h ?_
      | simp (disch := first | omega | (simp only [lnv]; omega)) only [wlk, ↓get_put', ↓reduceIte, seval, f0, f2, f4, f10, f11]
      | (with_reducible (first | apply cd_split | apply gd_split)) <;> (intro hc; (try simp only [hcn] at hc); (try simp only [hc]); (try simp only [hcl] at hc); try omega))
    refine lp_next hI (i - j + j) (by omega) ⟨i - j, j, _, rfl, by omega, by omega, by omega, by omega, by simp (disch := first | omega | (simp only [lnv]; omega)) only [wlk, ↓get_put', ↓reduceIte, seval, f0], by simp (disch := first | omega | (simp only [lnv]; omega)) only [wlk, ↓get_put', ↓reduceIte, seval, f2], by simp (disch := first | omega | (simp only [lnv]; omega)) only [wlk, ↓get_put', ↓reduceIte, seval, f4], by simp (disch := first | omega | (simp only [lnv]; omega)) only [wlk, ↓get_put', ↓reduceIte, seval, e3], by simp (disch := first | omega | (simp only [lnv]; omega)) only [wlk, ↓get_put', ↓reduceIte, seval, f11], ?_, rb1, st.trans s1⟩
    have := rot_gt (p := q) (s := m - i) hgt
    rw [show m - i + i = m by omega, show m - i + j = m - (i - j) by omega] at this
    rw [this]; exact hr
  · have d2 : ((j : Int) < (i : Int)) = False := eq_false (by omega)
    have e3 : (j : Int) - (i : Int) = ((j - i : Nat) : Int) := by omega
    have e4 : (m : Int) + (j : Int) - (i : Int) = ((m + j - i : Nat) : Int) := by omega
    repeat' (first
      | refine St.h ?_
      | simp (disch := first | omega | (simp only [lnv]; omega)) only [wlk, ↓get_put', ↓reduceIte, seval, f0, f2, f4, f10, f11, d1, d2, em, e4]
      | (with_reducible (first | apply cd_split | apply gd_split)) <;> (intro hc; (try simp only [hcn] at hc); (try simp only [hc]); (try simp only [hcl] at hc); try omega))
    refine CL.mk (swapR_ok (c := c) (a := m - i) (b := m + j - i) (k := i) rb hN (by omega) (by omega) hfg) ?_
    rintro y g1 ⟨rb1, s1⟩
    repeat' (first
      | refine St.h ?_
      | simp (disch := first | omega | (simp only [lnv]; omega)) only [wlk, ↓get_put', ↓reduceIte, seval, f0, f2, f4, f10, f11]
      | (with_reducible (first | apply cd_split | apply gd_split)) <;> (intro hc; (try simp only [hcn] at hc); (try simp only [hc]); (try simp only [hcl] at hc); try omega))
    refine lp_next hI (i + (j - i)) (by omega) ⟨i, j - i, _, rfl, by omega, by omega, by omega, by omega, by simp (disch := first | omega | (simp only [lnv]; omega)) only [wlk, ↓get_put', ↓reduceIte, seval, f0], by simp (disch := first | omega | (simp only [lnv]; omega)) only [wlk, ↓get_put', ↓reduceIte, seval, f2], by simp (disch := first | omega | (simp only [lnv]; omega)) only [wlk, ↓get_put', ↓reduceIte, seval, f4], by simp (disch := first | omega | (simp only [lnv]; omega)) only [wlk, ↓get_put', ↓reduceIte, seval, f10], by simp (disch := first | omega | (simp only [lnv]; omega)) only [wlk, ↓get_put', ↓reduceIte, seval, e3], ?_, rb1, st.trans s1⟩
    have := rot_lt (p := q) (s := m - i) (show i < j by omega)
    rw [show m - i + j = m + j - i by omega] at this
    rw [this]; exact hr
theorem isortW_ok {h : H} {v : V} {p : Nat → Nat} {a b : Nat} (hb : Rw h v (rwK L p N)) (hN : N ≤ 1000) (h1 : a ≤ b) (h2 : b ≤ N) (hp : ∀ k, a ≤ k → k < b → p k = k) (hf : B.val h.floor ≤ B.val h.next) : FnOk Try.prog 57 [v, .i .i64 (a : Int), .i .i64 (b : Int), .f 40 []] h fun y h' =>
    ∃ q, Per p q a b ∧ Srt L q a b ∧ Rw h' v (rwK L q N) ∧ Stay (isOf v) h h' := by
  refine fn_go c57 (by intro hb; cases hb) (by simp) (by simp) fun Q hQ => ?_
  simp only [slotsF, Nat.reduceAdd]
  repeat' (first
    | refine St.h ?_
    | simp (disch := first | omega | (simp only [lnv]; omega)) only [wlk, ↓get_put', ↓reduceIte, seval]
    | (with_reducible (first | apply cd_split | apply gd_split)) <;> (intro hc; (try simp only [hcn] at hc); (try simp only [hc]); (try simp only [hcl] at hc); try omega))
  by_cases hab : a < b
  case neg =>
    refine Ok.lp (fun m t g => m = 0 ∧ h = g ∧ get 2 t = .i .i64 (b : Int) ∧ get 8 t = .i .i64 ((a : Int) + 1)) 0 ?_ ?_
    · simp (disch := first | omega | (simp only [lnv]; omega)) only [wlk, ↓get_put', ↓reduceIte, seval]
      repeat' (first | trivial | rfl | refine And.intro ?_ ?_)
    rintro I hI m t g ⟨rfl, rfl, f2, f8⟩
    have d1 : ((a : Int) + 1 < (b : Int)) = False := eq_false (by omega)
    repeat' (first
      | refine St.h ?_
      | simp (disch := first | omega | (simp only [lnv]; omega)) only [wlk, ↓get_put', ↓reduceIte, seval, f2, f8, d1]
      | (with_reducible (first | apply cd_split | apply gd_split)) <;> (intro hc; (try simp only [hcn] at hc); (try simp only [hc]); (try simp only [hcl] at hc); try omega))
    subst hQ
    exact ⟨p, Per.refl, fun i j h1 h2 h3 => by omega, hb, ⟨rfl, Nat.le_refl _, fun _ _ _ => rfl⟩⟩
  refine Ok.lp (fun m t g => ∃ (i : Nat) (q : Nat → Nat), m = b - i ∧ a + 1 ≤ i ∧ i ≤ b ∧ get 0 t = v ∧ get 1 t = .i .i64 (a : Int) ∧ get 2 t = .i .i64 (b : Int) ∧ get 3 t = .f 40 [] ∧ get 8 t = .i .i64 (i : Int) ∧ Per p q a i ∧ Srt L q a i ∧ Rw g v (rwK L q N) ∧ Stay (isOf v) h g) (b - (a + 1)) ?_ ?_
  · simp (disch := first | omega | (simp only [lnv]; omega)) only [wlk, ↓get_put', ↓reduceIte, seval]
    refine ⟨a + 1, p, by omega, by omega, by omega, ?_⟩
    refine ⟨?_, ?_, ?_, ?_, ?_, Per.refl, fun i j h1 h2 h3 => by omega, hb, ⟨rfl, Nat.le_refl _, fun _ _ _ => rfl⟩⟩
    all_goals first | trivial | rfl
  rintro I hI m t g ⟨i, q, rfl, hi1, hi2, f0, f1, f2, f3, f8, hper, hs, rb, st⟩
  have hfg := st.fl hf
  by_cases hib : i < b
  case neg =>
    obtain rfl : i = b := by omega
    repeat' (first
      | refine St.h ?_
      | simp (disch := first | omega | (simp only [lnv]; omega)) only [wlk, ↓get_put', ↓reduceIte, seval, f0, f1, f2, f3, f8]
      | (with_reducible (first | apply cd_split | apply gd_split)) <;> (intro hc; (try simp only [hcn] at hc); (try simp only [hc]); (try simp only [hcl] at hc); try omega))
    subst hQ
    exact ⟨q, hper, hs, rb, st⟩
  have hqi : q i = i := by rw [hper.out i (.inr (Nat.le_refl _)), hp i (by omega) hib]
  have hql : ∀ k, a ≤ k → k < i → q k < i := fun k k1 k2 => by
    obtain ⟨j, j1, j2, j3⟩ := (hper.mem (q k)).1 ⟨k, k1, k2, rfl⟩
    rw [← j3, hp j j1 (by omega)]; exact j2
  repeat' (first
    | refine St.h ?_
    | simp (disch := first | omega | (simp only [lnv]; omega)) only [wlk, ↓get_put', ↓reduceIte, seval, f0, f1, f2, f3, f8]
    | (with_reducible (first | apply cd_split | apply gd_split)) <;> (intro hc; (try simp only [hcn] at hc); (try simp only [hc]); (try simp only [hcl] at hc); try omega))
  refine Ok.lp (fun m t g => ∃ (j : Nat) (q : Nat → Nat), m = j ∧ a ≤ j ∧ j ≤ i ∧ get 0 t = v ∧ get 1 t = .i .i64 (a : Int) ∧ get 2 t = .i .i64 (b : Int) ∧ get 3 t = .f 40 [] ∧ get 8 t = .i .i64 (i : Int) ∧ get 9 t = .i .i64 (j : Int) ∧ MidK L q a i j ∧ Per p q a (i + 1) ∧ q j = i ∧ (∀ k, a ≤ k → k ≤ i → k ≠ j → q k < i) ∧ Rw g v (rwK L q N) ∧ Stay (isOf v) h g) i ?_ ?_
  · simp (disch := first | omega | (simp only [lnv]; omega)) only [wlk, ↓get_put', ↓reduceIte, seval, f0, f1, f2, f3, f8]
    refine ⟨i, q, by omega, by omega, by omega, ?_⟩
    refine ⟨?_, ?_, ?_, ?_, ?_, ?_, ⟨fun x y x1 x2 x3 x4 x5 => hs x y x1 x2 (by omega), fun y y1 y2 => by omega⟩, hper.wide (Nat.le_refl _) (by omega), hqi, fun k k1 k2 k3 => hql k k1 (by omega), rb, st⟩
    all_goals first | trivial | rfl
  rintro I2 hI2 m2 t2 g2 ⟨j, q2, rfl, hj1, hj2, e0, e1, e2, e3, e8, e9, hM, hper2, hqj, hql2, rb2, st2⟩
  have hfg2 := st2.fl hf
  have done : ∀ g3, Rw g3 v (rwK L q2 N) → Stay (isOf v) h g3 → (m2 = a ∨ ltK L (q2 (m2 - 1)) (q2 m2)) → ∀ t3 : F, get 0 t3 = v → get 1 t3 = .i .i64 (a : Int) → get 2 t3 = .i .i64 (b : Int) → get 3 t3 = .f 40 [] → get 8 t3 = .i .i64 ((i + 1 : Nat) : Int) → LpG I (b - i) t3 g3 := fun g3 r3 s3 hd t3 x0 x1 x2 x3 x8 => by
    exact lp_next hI (b - (i + 1)) (by omega) ⟨i + 1, q2, rfl, by omega, by omega, x0, x1, x2, x3, x8, hper2, midK_done hM hj2 hd hj1, r3, s3⟩
  by_cases hja : a < m2
  case neg =>
    obtain rfl : m2 = a := by omega
    have d1 : ((m2 : Int) < (m2 : Int)) = False := eq_false (by omega)
    repeat' (first
      | refine St.h ?_
      | simp (disch := first | omega | (simp only [lnv]; omega)) only [wlk, ↓get_put', ↓reduceIte, seval, e0, e1, e2, e3, e8, e9, d1]
      | (with_reducible (first | apply cd_split | apply gd_split)) <;> (intro hc; (try simp only [hcn] at hc); (try simp only [hc]); (try simp only [hcl] at hc); try omega))
    exact done _ rb2 st2 (.inl rfl) _ (by simp (disch := first | omega | (simp only [lnv]; omega)) only [wlk, ↓get_put', ↓reduceIte, seval, e0]) (by simp (disch := first | omega | (simp only [lnv]; omega)) only [wlk, ↓get_put', ↓reduceIte, seval, e1]) (by simp (disch := first | omega | (simp only [lnv]; omega)) only [wlk, ↓get_put', ↓reduceIte, seval, e2]) (by simp (disch := first | omega | (simp only [lnv]; omega)) only [wlk, ↓get_put', ↓reduceIte, seval, e3]) (by simp (disch := first | omega | (simp only [lnv]; omega)) only [wlk, ↓get_put', ↓reduceIte, seval, e8]; rfl)
  have d1 : ((a : Int) < (m2 : Int)) = True := eq_true (by omega)
  obtain ⟨n, rfl⟩ : ∃ n, m2 = n + 1 := ⟨m2 - 1, by omega⟩
  have en : (((n + 1 : Nat) : Int) - 1).toNat = n := by omega
  have W2 := rb2.ws
  have ln : (rwK L q2 N).length = N := rwK_len
  have ga : (rwK L q2 N).getD (n + 1) default = L.getD (q2 (n + 1)) default := rwK_getD (by omega)
  have gb : (rwK L q2 N).getD n default = L.getD (q2 n) default := rwK_getD (by omega)
  repeat' (first
    | refine St.h ?_
    | simp (disch := first | omega | (simp only [lnv]; omega)) only [wlk, ↓get_put', ↓reduceIte, seval, e0, e1, e2, e3, e8, e9, d1, W2.ix, W2.la, en, ga, gb, Int.toNat_natCast]
    | (with_reducible (first | apply cd_split | apply gd_split)) <;> (intro hc; (try simp only [hcn] at hc); (try simp only [hc]); (try simp only [hcl] at hc); try omega))
  refine CL.stay (byKey12_ok (a := L.getD (q2 (n + 1)) default) (b := L.getD (q2 n) default) hfg2) fun g3 s3 => ?_
  have rb3 := rb2.grow s3
  have st3 := st2.trans (s3.mono fun _ _ hq => hq.elim)
  have W3 := rb3.ws
  cases hk : klK L (q2 (n + 1)) (q2 n) with
  | false =>
    have d2 := cmpW_f hk
    repeat' (first
      | refine St.h ?_
      | simp (disch := first | omega | (simp only [lnv]; omega)) only [wlk, ↓get_put', ↓reduceIte, seval, e0, e1, e2, e3, e8, e9, d1, d2]
      | (with_reducible (first | apply cd_split | apply gd_split)) <;> (intro hc; (try simp only [hcn] at hc); (try simp only [hc]); (try simp only [hcl] at hc); try omega))
    refine done _ rb3 st3 (.inr (ltK_no hk fun _ => ?_)) _ (by simp (disch := first | omega | (simp only [lnv]; omega)) only [wlk, ↓get_put', ↓reduceIte, seval, e0]) (by simp (disch := first | omega | (simp only [lnv]; omega)) only [wlk, ↓get_put', ↓reduceIte, seval, e1]) (by simp (disch := first | omega | (simp only [lnv]; omega)) only [wlk, ↓get_put', ↓reduceIte, seval, e2]) (by simp (disch := first | omega | (simp only [lnv]; omega)) only [wlk, ↓get_put', ↓reduceIte, seval, e3]) (by simp (disch := first | omega | (simp only [lnv]; omega)) only [wlk, ↓get_put', ↓reduceIte, seval, e8]; rfl)
    rw [hqj]; exact hql2 n (by omega) (by omega) (by omega)
  | true =>
    have d2 := cmpW_t hk
    repeat' (first
      | refine St.h ?_
      | simp (disch := first | omega | (simp only [lnv]; omega)) only [wlk, ↓get_put', ↓reduceIte, seval, e0, e1, e2, e3, e8, e9, d1, d2, W3.ix, W3.la, en, ga, gb, Int.toNat_natCast]
      | (with_reducible (first | apply cd_split | apply gd_split)) <;> (intro hc; (try simp only [hcn] at hc); (try simp only [hc]); (try simp only [hcl] at hc); try omega))
    refine st_bufS (c := wriC) (x := L.getD (q2 n) default) rb3.1 rb3.2 wriC_len (by omega) (by omega) (by omega) rfl fun h3 B3 T3 s4 => ?_
    have W4 : Ws h3 v ((rwK L q2 N).set (n + 1) (L.getD (q2 n) default)) := Ss.buf B3 rfl wriC_len (by omega)
    repeat' (first
      | refine St.h ?_
      | simp (disch := first | omega | (simp only [lnv]; omega)) only [wlk, ↓get_put', ↓reduceIte, seval, e0, e1, e2, e3, e8, e9, en, W4.ix]
      | (with_reducible (first | apply cd_split | apply gd_split)) <;> (intro hc; (try simp only [hcn] at hc); (try simp only [hc]); (try simp only [hcl] at hc); try omega))
    refine st_bufS (c := wriC) (x := L.getD (q2 (n + 1)) default) B3 T3 wriC_len (by omega) (by rw [List.length_set]; omega) (by rw [List.length_set]; omega) rfl fun h4 B4 T4 s5 => ?_
    rw [rwK_set] at B4
    repeat' (first
      | refine St.h ?_
      | simp (disch := first | omega | (simp only [lnv]; omega)) only [wlk, ↓get_put', ↓reduceIte, seval, e0, e1, e2, e3, e8, e9]
      | (with_reducible (first | apply cd_split | apply gd_split)) <;> (intro hc; (try simp only [hcn] at hc); (try simp only [hc]); (try simp only [hcl] at hc); try omega))
    refine lp_next hI2 n (by omega) ⟨n, swpK q2 (n + 1) n, rfl, by omega, by omega, by simp (disch := first | omega | (simp only [lnv]; omega)) only [wlk, ↓get_put', ↓reduceIte, seval, e0], by simp (disch := first | omega | (simp only [lnv]; omega)) only [wlk, ↓get_put', ↓reduceIte, seval, e1], by simp (disch := first | omega | (simp only [lnv]; omega)) only [wlk, ↓get_put', ↓reduceIte, seval, e2], by simp (disch := first | omega | (simp only [lnv]; omega)) only [wlk, ↓get_put', ↓reduceIte, seval, e3], by simp (disch := first | omega | (simp only [lnv]; omega)) only [wlk, ↓get_put', ↓reduceIte, seval, e8], by simp (disch := first | omega | (simp only [lnv]; omega)) only [wlk, ↓get_put', ↓reduceIte, seval, e9]; congr 1; omega, midK_swp hM (by omega) hj2 (ltK_kl hk), hper2.trans (swp_per (by omega) (by omega)), by rw [swp_1]; exact hqj, fun k k1 k2 k3 => ?_, ⟨B4, T4⟩, st3.trans (s4.trans s5)⟩
    by_cases e : k = n + 1
    · rw [e, swp_2]; exact hql2 n (by omega) (by omega) (by omega)
    · rw [swp_o k3 e]; exact hql2 k k1 k2 e
end
end Go.Proofs.Ythncpgkpkdolfaa

set_option maxRecDepth 100000
set_option maxHeartbeats 8000000
set_option linter.all false
namespace Go.Proofs.Ythncpgkpkdolfaa
open Go Go.Ev
section
variable {L : List Wri} {N : Nat}
def SmOk (L : List Wri) (N : Nat) (K : Nat) : Prop := ∀ {h : H} {v : V} {p : Nat → Nat} {a m b : Nat}, b - a < K → Rw h v (rwK L p N) → a < m → m < b → b ≤ N → Srt L p a m → Srt L p m b → Stb L p a m b → B.val h.floor ≤ B.val h.next →
  FnOk Try.prog 58 [v, .i .i64 (a : Int), .i .i64 (m : Int), .i .i64 (b : Int), .f 40 []] h fun y h' => ∃ q, Per p q a b ∧ Srt L q a b ∧ Rw h' v (rwK L q N) ∧ Stay (isOf v) h h'
theorem sm_up {h : H} {v : V} {p : Nat → Nat} {a b : Nat} (hN : N ≤ 1000) (rb : Rw h v (rwK L p N)) (h1 : a + 1 < b) (h2 : b ≤ N) (Bs : Srt L p (a + 1) b) (S : Stb L p a (a + 1) b) (hf : B.val h.floor ≤ B.val h.next) :
    FnOk Try.prog 58 [v, .i .i64 (a : Int), .i .i64 ((a + 1 : Nat) : Int), .i .i64 (b : Int), .f 40 []] h fun y h' => ∃ q, Per p q a b ∧ Srt L q a b ∧ Rw h' v (rwK L q N) ∧ Stay (isOf v) h h' := by
  have d0 : (((a + 1 : Nat) : Int) - (a : Int) = 1) = True := eq_true (by omega)
  have ln : ∀ q : Nat → Nat, (rwK L q N).length = N := fun q => rwK_len
  refine fn_go c58 (by intro hb; cases hb) (by simp) (by simp) fun Q hQ => ?_
  simp only [slotsF, Nat.reduceAdd]
  repeat' (first
    | refine St.h ?_
    | simp (disch := first | omega | (simp only [lnv]; omega)) only [wlk, ↓get_put', ↓reduceIte, seval, d0]
    | (with_reducible (first | apply cd_split | apply gd_split)) <;> (intro hc; (try simp only [hcn] at hc); (try simp only [hc]); (try simp only [hcl] at hc); try omega))
  refine Ok.lp (fun k t g => ∃ i j : Nat, k = j - i ∧ a + 1 ≤ i ∧ i ≤ j ∧ j ≤ b ∧ (i = a + 1 ∨ klK L (p (i - 1)) (p a) = true) ∧ (j = b ∨ klK L (p j) (p a) = false) ∧ get 0 t = v ∧ get 1 t = .i .i64 (a : Int) ∧ get 4 t = .f 40 [] ∧ get 10 t = .i .i64 (i : Int) ∧ get 11 t = .i .i64 (j : Int) ∧ Rw g v (rwK L p N) ∧ Stay (isOf v) h g) (b - (a + 1)) ?_ ?_
  · simp (disch := first | omega | (simp only [lnv]; omega)) only [wlk, ↓get_put', ↓reduceIte, seval]
    refine ⟨a + 1, b, by omega, by omega, by omega, by omega, .inl rfl, .inl rfl, ?_⟩
    refine ⟨?_, ?_, ?_, ?_, ?_, rb, ⟨rfl, Nat.le_refl _, fun _ _ _ => rfl⟩⟩
    all_goals first | trivial | rfl
  rintro I hI k t g ⟨i, j, rfl, hi, hij, hj, x2, x3, f0, f1, f4, f10, f11, rb, st⟩
  have hfg := st.fl hf
  have W1 := rb.ws
  have ga : (rwK L p N).getD a default = L.getD (p a) default := rwK_getD (by omega)
  by_cases hlt : i < j
  case pos =>
    have hm : ((i : Int) + (j : Int)).toNat / 2 = (i + j) / 2 := by omega
    have hm2 : ((i : Int) + (j : Int)) / 2 = (((i + j) / 2 : Nat) : Int) := by omega
    have gb : (rwK L p N).getD ((i + j) / 2) default = L.getD (p ((i + j) / 2)) default := rwK_getD (by omega)
    have d1 : ((i : Int) < (j : Int)) = True := eq_true (by omega)
    have l1 := ln p
    repeat' (first
      | refine St.h ?_
      | simp (disch := first | omega | (simp only [lnv]; omega)) only [wlk, ↓get_put', ↓reduceIte, seval, f0, f1, f4, f10, f11, d1, hm, hm2, W1.ix, W1.la, ga, gb, Int.toNat_natCast]
      | (with_reducible (first | apply cd_split | apply gd_split)) <;> (intro hc; (try simp only [hcn] at hc); (try simp only [hc]); (try simp only [hcl] at hc); try omega))
    refine CL.stay (byKey12_ok (a := L.getD (p ((i + j) / 2)) default) (b := L.getD (p a) default) hfg) fun g3 s3 => ?_
    have rb3 := rb.grow s3
    have st3 := st.trans (s3.mono fun _ _ hq => hq.elim)
    cases hk : klK L (p ((i + j) / 2)) (p a) with
    | true =>
      have d2 := cmpW_t hk
      repeat' (first
        | refine St.h ?_
        | simp (disch := first | omega | (simp only [lnv]; omega)) only [wlk, ↓get_put', ↓reduceIte, seval, f0, f1, f4, f10, f11, d2]
        | (with_reducible (first | apply cd_split | apply gd_split)) <;> (intro hc; (try simp only [hcn] at hc); (try simp only [hc]); (try simp only [hcl] at hc); try omega))
      refine lp_next hI (j - ((i + j) / 2 + 1)) (by omega) ⟨(i + j) / 2 + 1, j, rfl, by omega, by omega, by omega, .inr (by rw [Nat.add_sub_cancel]; exact hk), x3, by simp (disch := first | omega | (simp only [lnv]; omega)) only [wlk, ↓get_put', ↓reduceIte, seval, f0], by simp (disch := first | omega | (simp only [lnv]; omega)) only [wlk, ↓get_put', ↓reduceIte, seval, f1], by simp (disch := first | omega | (simp only [lnv]; omega)) only [wlk, ↓get_put', ↓reduceIte, seval, f4], by simp (disch := first | omega | (simp only [lnv]; omega)) only [wlk, ↓get_put', ↓reduceIte, seval]; rfl, by simp (disch := first | omega | (simp only [lnv]; omega)) only [wlk, ↓get_put', ↓reduceIte, seval, f11], rb3, st3⟩
    | false =>
      have d2 := cmpW_f hk
      repeat' (first
        | refine St.h ?_
        | simp (disch := first | omega | (simp only [lnv]; omega)) only [wlk, ↓get_put', ↓reduceIte, seval, f0, f1, f4, f10, f11, d2]
        | (with_reducible (first | apply cd_split | apply gd_split)) <;> (intro hc; (try simp only [hcn] at hc); (try simp only [hc]); (try simp only [hcl] at hc); try omega))
      refine lp_next hI ((i + j) / 2 - i) (by omega) ⟨i, (i + j) / 2, rfl, by omega, by omega, by omega, x2, .inr hk, by simp (disch := first | omega | (simp only [lnv]; omega)) only [wlk, ↓get_put', ↓reduceIte, seval, f0], by simp (disch := first | omega | (simp only [lnv]; omega)) only [wlk, ↓get_put', ↓reduceIte, seval, f1], by simp (disch := first | omega | (simp only [lnv]; omega)) only [wlk, ↓get_put', ↓reduceIte, seval, f4], by simp (disch := first | omega | (simp only [lnv]; omega)) only [wlk, ↓get_put', ↓reduceIte, seval, f10], by simp (disch := first | omega | (simp only [lnv]; omega)) only [wlk, ↓get_put', ↓reduceIte, seval], rb3, st3⟩
  obtain rfl : i = j := by omega
  have y2 : i = a + 1 ∨ ltK L (p (i - 1)) (p a) := x2.imp id fun e => ltK_kl e
  have y3 : i = b ∨ ltK L (p a) (p i) := by
    by_cases e : i = b
    · exact .inl e
    · exact .inr (ltK_no (x3.resolve_left e) fun e2 => S a i (Nat.le_refl _) (by omega) hi (by omega) e2)
  have d1 : ((i : Int) < (i : Int)) = False := eq_false (by omega)
  have sq := rot_one_up hi hj Bs y2 y3
  repeat' (first
    | refine St.h ?_
    | simp (disch := first | omega | (simp only [lnv]; omega)) only [wlk, ↓get_put', ↓reduceIte, seval, f0, f1, f4, f10, f11, d1]
    | (with_reducible (first | apply cd_split | apply gd_split)) <;> (intro hc; (try simp only [hcn] at hc); (try simp only [hc]); (try simp only [hcl] at hc); try omega))
  refine Ok.lp (fun k t g => ∃ z : Nat, k = i - z ∧ a + z + 1 ≤ i ∧ get 0 t = v ∧ get 10 t = .i .i64 (i : Int) ∧ get 13 t = .i .i64 ((a + z : Nat) : Int) ∧ Rw g v (rwK L (rotK p a 1 z) N) ∧ Stay (isOf v) h g) i ?_ ?_
  · simp (disch := first | omega | (simp only [lnv]; omega)) only [wlk, ↓get_put', ↓reduceIte, seval, f0, f1, f4, f10]
    refine ⟨0, by omega, by omega, ?_, ?_, ?_, by rw [rot_n0]; exact rb, st⟩
    all_goals first | trivial | rfl
  rintro I2 hI2 k2 t2 g2 ⟨z, rfl, hz, e0, e10, e13, rb2, st2⟩
  have hfg2 := st2.fl hf
  have W2 := rb2.ws
  by_cases hzi : a + z + 1 < i
  case neg =>
    have d1 : (((a + z : Nat) : Int) < (i : Int) - 1) = False := eq_false (by omega)
    repeat' (first
      | refine St.h ?_
      | simp (disch := first | omega | (simp only [lnv]; omega)) only [wlk, ↓get_put', ↓reduceIte, seval, e0, e10, e13, d1]
      | (with_reducible (first | apply cd_split | apply gd_split)) <;> (intro hc; (try simp only [hcn] at hc); (try simp only [hc]); (try simp only [hcl] at hc); try omega))
    subst hQ
    obtain rfl : z = i - (a + 1) := by omega
    exact ⟨_, rot_per (Nat.le_refl _) (by omega), sq, rb2, st2⟩
  have d1 : (((a + z : Nat) : Int) < (i : Int) - 1) = True := eq_true (by omega)
  have ez : (((a + z : Nat) : Int) + 1).toNat = a + z + 1 := by omega
  have gc : (rwK L (rotK p a 1 z) N).getD (a + z) default = L.getD (rotK p a 1 z (a + z)) default := rwK_getD (by omega)
  have gd : (rwK L (rotK p a 1 z) N).getD (a + z + 1) default = L.getD (rotK p a 1 z (a + z + 1)) default := rwK_getD (by omega)
  have l2 := ln (rotK p a 1 z)
  repeat' (first
    | refine St.h ?_
    | simp (disch := first | omega | (simp only [lnv]; omega)) only [wlk, ↓get_put', ↓reduceIte, seval, e0, e10, e13, d1, W2.ix, W2.la, ez, gc, gd, Int.toNat_natCast]
    | (with_reducible (first | apply cd_split | apply gd_split)) <;> (intro hc; (try simp only [hcn] at hc); (try simp only [hc]); (try simp only [hcl] at hc); try omega))
  refine st_bufS (c := wriC) (x := L.getD (rotK p a 1 z (a + z + 1)) default) rb2.1 rb2.2 wriC_len (by omega) (by omega) (by omega) rfl fun h3 B3 T3 s4 => ?_
  have W4 : Ws h3 v ((rwK L (rotK p a 1 z) N).set (a + z) (L.getD (rotK p a 1 z (a + z + 1)) default)) := Ss.buf B3 rfl wriC_len (by omega)
  repeat' (first
    | refine St.h ?_
    | simp (disch := first | omega | (simp only [lnv]; omega)) only [wlk, ↓get_put', ↓reduceIte, seval, e0, e10, e13, ez, W4.ix]
    | (with_reducible (first | apply cd_split | apply gd_split)) <;> (intro hc; (try simp only [hcn] at hc); (try simp only [hc]); (try simp only [hcl] at hc); try omega))
  refine st_bufS (c := wriC) (x := L.getD (rotK p a 1 z (a + z)) default) B3 T3 wriC_len (by omega) (by rw [List.length_set]; omega) (by rw [List.length_set]; omega) rfl fun h4 B4 T4 s5 => ?_
  rw [rwK_set, rot_up] at B4
  repeat' (first
    | refine St.h ?_
    | simp (disch := first | omega | (simp only [lnv]; omega)) only [wlk, ↓get_put', ↓reduceIte, seval, e0, e10, e13]
    | (with_reducible (first | apply cd_split | apply gd_split)) <;> (intro hc; (try simp only [hcn] at hc); (try simp only [hc]); (try simp only [hcl] at hc); try omega))
  refine lp_next hI2 (i - (z + 1)) (by omega) ⟨z + 1, rfl, by omega, by simp (disch := first | omega | (simp only [lnv]; omega)) only [wlk, ↓get_put', ↓reduceIte, seval, e0], by simp (disch := first | omega | (simp only [lnv]; omega)) only [wlk, ↓get_put', ↓reduceIte, seval, e10], by simp (disch := first | omega | (simp only [lnv]; omega)) only [wlk, ↓get_put', ↓reduceIte, seval, e13]; rfl, ⟨B4, T4⟩, st2.trans (s4.trans s5)⟩
theorem sm_dn {h : H} {v : V} {p : Nat → Nat} {a m : Nat} (hN : N ≤ 1000) (rb : Rw h v (rwK L p N)) (h1 : a + 1 < m) (h2 : m + 1 ≤ N) (A : Srt L p a m) (S : Stb L p a m (m + 1)) (hf : B.val h.floor ≤ B.val h.next) :
    FnOk Try.prog 58 [v, .i .i64 (a : Int), .i .i64 (m : Int), .i .i64 ((m + 1 : Nat) : Int), .f 40 []] h fun y h' => ∃ q, Per p q a (m + 1) ∧ Srt L q a (m + 1) ∧ Rw h' v (rwK L q N) ∧ Stay (isOf v) h h' := by
  have d00 : ((m : Int) - (a : Int) = 1) = False := eq_false (by omega)
  have d0 : (((m + 1 : Nat) : Int) - (m : Int) = 1) = True := eq_true (by omega)
  have ln : ∀ q : Nat → Nat, (rwK L q N).length = N := fun q => rwK_len
  refine fn_go c58 (by intro hb; cases hb) (by simp) (by simp) fun Q hQ => ?_
  simp only [slotsF, Nat.reduceAdd]
  repeat' (first
    | refine St.h ?_
    | simp (disch := first | omega | (simp only [lnv]; omega)) only [wlk, ↓get_put', ↓reduceIte, seval, d00, d0]
    | (with_reducible (first | apply cd_split | apply gd_split)) <;> (intro hc; (try simp only [hcn] at hc); (try simp only [hc]); (try simp only [hcl] at hc); try omega))
  refine Ok.lp (fun k t g => ∃ i j : Nat, k = j - i ∧ a ≤ i ∧ i ≤ j ∧ j ≤ m ∧ (i = a ∨ klK L (p m) (p (i - 1)) = false) ∧ (j = m ∨ klK L (p m) (p j) = true) ∧ get 0 t = v ∧ get 2 t = .i .i64 (m : Int) ∧ get 4 t = .f 40 [] ∧ get 14 t = .i .i64 (i : Int) ∧ get 15 t = .i .i64 (j : Int) ∧ Rw g v (rwK L p N) ∧ Stay (isOf v) h g) (m - a) ?_ ?_
  · simp (disch := first | omega | (simp only [lnv]; omega)) only [wlk, ↓get_put', ↓reduceIte, seval]
    refine ⟨a, m, by omega, by omega, by omega, by omega, .inl rfl, .inl rfl, ?_⟩
    refine ⟨?_, ?_, ?_, ?_, ?_, rb, ⟨rfl, Nat.le_refl _, fun _ _ _ => rfl⟩⟩
    all_goals first | trivial | rfl
  rintro I hI k t g ⟨i, j, rfl, hi, hij, hj, x2, x3, f0, f2, f4, f14, f15, rb, st⟩
  have hfg := st.fl hf
  have W1 := rb.ws
  have ga : (rwK L p N).getD m default = L.getD (p m) default := rwK_getD (by omega)
  by_cases hlt : i < j
  case pos =>
    have hm : ((i : Int) + (j : Int)).toNat / 2 = (i + j) / 2 := by omega
    have hm2 : ((i : Int) + (j : Int)) / 2 = (((i + j) / 2 : Nat) : Int) := by omega
    have gb : (rwK L p N).getD ((i + j) / 2) default = L.getD (p ((i + j) / 2)) default := rwK_getD (by omega)
    have d1 : ((i : Int) < (j : Int)) = True := eq_true (by omega)
    have l1 := ln p
    repeat' (first
      | refine St.h ?_
      | simp (disch := first | omega | (simp only [lnv]; omega)) only [wlk, ↓get_put', ↓reduceIte, seval, f0, f2, f4, f14, f15, d1, hm, hm2, W1.ix, W1.la, ga, gb, Int.toNat_natCast]
      | (with_reducible (first | apply cd_split | apply gd_split)) <;> (intro hc; (try simp only [hcn] at hc); (try simp only [hc]); (try simp only [hcl] at hc); try omega))
    refine CL.stay (byKey12_ok (a := L.getD (p m) default) (b := L.getD (p ((i + j) / 2)) default) hfg) fun g3 s3 => ?_
    have rb3 := rb.grow s3
    have st3 := st.trans (s3.mono fun _ _ hq => hq.elim)
    cases hk : klK L (p m) (p ((i + j) / 2)) with
    | false =>
      have d2 := cmpW_f hk
      repeat' (first
        | refine St.h ?_
        | simp (disch := first | omega | (simp only [lnv]; omega)) only [wlk, ↓get_put', ↓reduceIte, seval, f0, f2, f4, f14, f15, d2]
        | (with_reducible (first | apply cd_split | apply gd_split)) <;> (intro hc; (try simp only [hcn] at hc); (try simp only [hc]); (try simp only [hcl] at hc); try omega))
      refine lp_next hI (j - ((i + j) / 2 + 1)) (by omega) ⟨(i + j) / 2 + 1, j, rfl, by omega, by omega, by omega, .inr (by rw [Nat.add_sub_cancel]; exact hk), x3, by simp (disch := first | omega | (simp only [lnv]; omega)) only [wlk, ↓get_put', ↓reduceIte, seval, f0], by simp (disch := first | omega | (simp only [lnv]; omega)) only [wlk, ↓get_put', ↓reduceIte, seval, f2], by simp (disch := first | omega | (simp only [lnv]; omega)) only [wlk, ↓get_put', ↓reduceIte, seval, f4], by simp (disch := first | omega | (simp only [lnv]; omega)) only [wlk, ↓get_put', ↓reduceIte, seval]; rfl, by simp (disch := first | omega | (simp only [lnv]; omega)) only [wlk, ↓get_put', ↓reduceIte, seval, f15], rb3, st3⟩
    | true =>
      have d2 := cmpW_t hk
      repeat' (first
        | refine St.h ?_
        | simp (disch := first | omega | (simp only [lnv]; omega)) only [wlk, ↓get_put', ↓reduceIte, seval, f0, f2, f4, f14, f15, d2]
        | (with_reducible (first | apply cd_split | apply gd_split)) <;> (intro hc; (try simp only [hcn] at hc); (try simp only [hc]); (try simp only [hcl] at hc); try omega))
      refine lp_next hI ((i + j) / 2 - i) (by omega) ⟨i, (i + j) / 2, rfl, by omega, by omega, by omega, x2, .inr hk, by simp (disch := first | omega | (simp only [lnv]; omega)) only [wlk, ↓get_put', ↓reduceIte, seval, f0], by simp (disch := first | omega | (simp only [lnv]; omega)) only [wlk, ↓get_put', ↓reduceIte, seval, f2], by simp (disch := first | omega | (simp only [lnv]; omega)) only [wlk, ↓get_put', ↓reduceIte, seval, f4], by simp (disch := first | omega | (simp only [lnv]; omega)) only [wlk, ↓get_put', ↓reduceIte, seval, f14], by simp (disch := first | omega | (simp only [lnv]; omega)) only [wlk, ↓get_put', ↓reduceIte, seval], rb3, st3⟩
  obtain rfl : i = j := by omega
  have y2 : i = a ∨ ltK L (p (i - 1)) (p m) := by
    by_cases e : i = a
    · exact .inl e
    · exact .inr (ltK_no (x2.resolve_left e) fun e2 => S (i - 1) m (by omega) (by omega) (Nat.le_refl _) (by omega) e2)
  have y3 : i = m ∨ ltK L (p m) (p i) := x3.imp id fun e => ltK_kl e
  have d1 : ((i : Int) < (i : Int)) = False := eq_false (by omega)
  have sq := rot_one_dn hi hj A y2 y3
  repeat' (first
    | refine St.h ?_
    | simp (disch := first | omega | (simp only [lnv]; omega)) only [wlk, ↓get_put', ↓reduceIte, seval, f0, f2, f4, f14, f15, d1]
    | (with_reducible (first | apply cd_split | apply gd_split)) <;> (intro hc; (try simp only [hcn] at hc); (try simp only [hc]); (try simp only [hcl] at hc); try omega))
  refine Ok.lp (fun k t g => ∃ z : Nat, k = z ∧ i ≤ z ∧ z ≤ m ∧ get 0 t = v ∧ get 14 t = .i .i64 (i : Int) ∧ get 17 t = .i .i64 (z : Int) ∧ Rw g v (rwK L (rotK p z (m - z) 1) N) ∧ Stay (isOf v) h g) m ?_ ?_
  · simp (disch := first | omega | (simp only [lnv]; omega)) only [wlk, ↓get_put', ↓reduceIte, seval, f0, f2, f4, f14]
    refine ⟨m, by omega, by omega, by omega, ?_, ?_, ?_, by rw [Nat.sub_self, rot_0n]; exact rb, st⟩
    all_goals first | trivial | rfl
  rintro I2 hI2 k2 t2 g2 ⟨z, rfl, hz, hzm, e0, e14, e17, rb2, st2⟩
  have hfg2 := st2.fl hf
  have W2 := rb2.ws
  by_cases hzi : i < k2
  case neg =>
    have d1 : ((i : Int) < (k2 : Int)) = False := eq_false (by omega)
    repeat' (first
      | refine St.h ?_
      | simp (disch := first | omega | (simp only [lnv]; omega)) only [wlk, ↓get_put', ↓reduceIte, seval, e0, e14, e17, d1]
      | (with_reducible (first | apply cd_split | apply gd_split)) <;> (intro hc; (try simp only [hcn] at hc); (try simp only [hc]); (try simp only [hcl] at hc); try omega))
    subst hQ
    obtain rfl : k2 = i := by omega
    exact ⟨_, rot_per hi (by omega), sq, rb2, st2⟩
  have d1 : ((i : Int) < (k2 : Int)) = True := eq_true (by omega)
  obtain ⟨n, rfl⟩ : ∃ n, k2 = n + 1 := ⟨k2 - 1, by omega⟩
  have ez : (((n + 1 : Nat) : Int) - 1).toNat = n := by omega
  have ez' : ((n + 1 : Nat) : Int) - 1 = (n : Int) := by omega
  have gc : (rwK L (rotK p (n + 1) (m - (n + 1)) 1) N).getD n default = L.getD (rotK p (n + 1) (m - (n + 1)) 1 n) default := rwK_getD (by omega)
  have gd : (rwK L (rotK p (n + 1) (m - (n + 1)) 1) N).getD (n + 1) default = L.getD (rotK p (n + 1) (m - (n + 1)) 1 (n + 1)) default := rwK_getD (by omega)
  have l2 := ln (rotK p (n + 1) (m - (n + 1)) 1)
  repeat' (first
    | refine St.h ?_
    | simp (disch := first | omega | (simp only [lnv]; omega)) only [wlk, ↓get_put', ↓reduceIte, seval, e0, e14, e17, d1, W2.ix, W2.la, ez, gc, gd, Int.toNat_natCast]
    | (with_reducible (first | apply cd_split | apply gd_split)) <;> (intro hc; (try simp only [hcn] at hc); (try simp only [hc]); (try simp only [hcl] at hc); try omega))
  refine st_bufS (c := wriC) (x := L.getD (rotK p (n + 1) (m - (n + 1)) 1 n) default) rb2.1 rb2.2 wriC_len (by omega) (by omega) (by omega) rfl fun h3 B3 T3 s4 => ?_
  have W4 : Ws h3 v ((rwK L (rotK p (n + 1) (m - (n + 1)) 1) N).set (n + 1) (L.getD (rotK p (n + 1) (m - (n + 1)) 1 n) default)) := Ss.buf B3 rfl wriC_len (by omega)
  repeat' (first
    | refine St.h ?_
    | simp (disch := first | omega | (simp only [lnv]; omega)) only [wlk, ↓get_put', ↓reduceIte, seval, e0, e14, e17, ez, W4.ix]
    | (with_reducible (first | apply cd_split | apply gd_split)) <;> (intro hc; (try simp only [hcn] at hc); (try simp only [hc]); (try simp only [hcl] at hc); try omega))
  refine st_bufS (c := wriC) (x := L.getD (rotK p (n + 1) (m - (n + 1)) 1 (n + 1)) default) B3 T3 wriC_len (by omega) (by rw [List.length_set]; omega) (by rw [List.length_set]; omega) rfl fun h4 B4 T4 s5 => ?_
  rw [rwK_set, rot_dn, show m - (n + 1) + 1 = m - n by omega] at B4
  repeat' (first
    | refine St.h ?_
    | simp (disch := first | omega | (simp only [lnv]; omega)) only [wlk, ↓get_put', ↓reduceIte, seval, e0, e14, e17]
    | (with_reducible (first | apply cd_split | apply gd_split)) <;> (intro hc; (try simp only [hcn] at hc); (try simp only [hc]); (try simp only [hcl] at hc); try omega))
  refine lp_next hI2 n (by omega) ⟨n, rfl, by omega, by omega, by simp (disch := first | omega | (simp only [lnv]; omega)) only [wlk, ↓get_put', ↓reduceIte, seval, e0], by simp (disch := first | omega | (simp only [lnv]; omega)) only [wlk, ↓get_put', ↓reduceIte, seval, e14], by simp (disch := first | omega | (simp only [lnv]; omega)) only [wlk, ↓get_put', ↓reduceIte, seval, ez', e17], ⟨B4, T4⟩, st2.trans (s4.trans s5)⟩
theorem sm_step {K : Nat} (hN : N ≤ 1000) (ih : SmOk L N K) {h : H} {v : V} {p : Nat → Nat} {a m b : Nat} (hK : b - a < K + 1) (rb : Rw h v (rwK L p N)) (h1 : a < m) (h2 : m < b) (h3 : b ≤ N) (A : Srt L p a m) (Bs : Srt L p m b) (S : Stb L p a m b) (hf : B.val h.floor ≤ B.val h.next) :
    FnOk Try.prog 58 [v, .i .i64 (a : Int), .i .i64 (m : Int), .i .i64 (b : Int), .f 40 []] h fun y h' => ∃ q, Per p q a b ∧ Srt L q a b ∧ Rw h' v (rwK L q N) ∧ Stay (isOf v) h h' := by
  by_cases m1 : m = a + 1
  · subst m1
    exact sm_up hN rb h2 h3 Bs S hf
  by_cases m2 : b = m + 1
  · subst m2
    exact sm_dn hN rb (by omega) h3 A S hf
  have d0 : ((m : Int) - (a : Int) = 1) = False := eq_false (by omega)
  have d00 : ((b : Int) - (m : Int) = 1) = False := eq_false (by omega)
  have ln : ∀ q : Nat → Nat, (rwK L q N).length = N := fun q => rwK_len
  obtain ⟨mid, hmid⟩ : ∃ mid, mid = (a + b) / 2 := ⟨_, rfl⟩
  have hm : ((a : Int) + (b : Int)).toNat / 2 = mid := by omega
  have hm2 : ((a : Int) + (b : Int)) / 2 = (mid : Int) := by omega
  obtain ⟨z0, r0, hz0, hr0⟩ : ∃ z0 r0 : Nat, (m > mid → z0 = mid + m - b ∧ r0 = mid) ∧ (m ≤ mid → z0 = a ∧ r0 = m) := by
    by_cases e : m > mid
    · exact ⟨mid + m - b, mid, fun _ => ⟨rfl, rfl⟩, fun h => by omega⟩
    · exact ⟨a, m, fun h => absurd h e, fun _ => ⟨rfl, rfl⟩⟩
  have hzr : a ≤ z0 ∧ z0 ≤ r0 ∧ r0 ≤ m ∧ r0 ≤ mid ∧ mid + m ≤ z0 + b := by
    by_cases e : m > mid
    · obtain ⟨e1, e2⟩ := hz0 e; omega
    · obtain ⟨e1, e2⟩ := hr0 (by omega); omega
  obtain ⟨y1, y2, y3, y4, y5⟩ := hzr
  refine fn_go c58 (by intro hb; cases hb) (by simp) (by simp) fun Q hQ => ?_
  simp only [slotsF, Nat.reduceAdd]
  -- what follows the choice of both ends
  have rest : ∀ t : F, get 0 t = v → get 1 t = .i .i64 (a : Int) → get 2 t = .i .i64 (m : Int) → get 3 t = .i .i64 (b : Int) → get 4 t = .f 40 [] → get 18 t = .i .i64 (mid : Int) → get 19 t = .i .i64 ((mid + m : Nat) : Int) → get 20 t = .i .i64 (z0 : Int) → get 21 t = .i .i64 (r0 : Int) → Ok Try.prog 220 s58_79 t h (FnK [] Q) := fun t f0 f1 f2 f3 f4 f18 f19 f20 f21 => by
    have en : ((mid + m : Nat) : Int) - 1 = ((mid + m - 1 : Nat) : Int) := by omega
    repeat' (first
      | refine St.h ?_
      | simp (disch := first | omega | (simp only [lnv]; omega)) only [wlk, ↓get_put', ↓reduceIte, seval, f0, f1, f2, f3, f4, f18, f19, f20, f21]
      | (with_reducible (first | apply cd_split | apply gd_split)) <;> (intro hc; (try simp only [hcn] at hc); (try simp only [hc]); (try simp only [hcl] at hc); try omega))
    refine Ok.lp (fun k t g => ∃ z r : Nat, k = r - z ∧ z0 ≤ z ∧ z ≤ r ∧ r ≤ r0 ∧ (z = z0 ∨ klK L (p (mid + m - z)) (p (z - 1)) = false) ∧ (r = r0 ∨ klK L (p (mid + m - 1 - r)) (p r) = true) ∧ get 0 t = v ∧ get 1 t = .i .i64 (a : Int) ∧ get 2 t = .i .i64 (m : Int) ∧ get 3 t = .i .i64 (b : Int) ∧ get 4 t = .f 40 [] ∧ get 18 t = .i .i64 (mid : Int) ∧ get 19 t = .i .i64 ((mid + m : Nat) : Int) ∧ get 20 t = .i .i64 (z : Int) ∧ get 21 t = .i .i64 (r : Int) ∧ get 22 t = .i .i64 ((mid + m - 1 : Nat) : Int) ∧ Rw g v (rwK L p N) ∧ Stay (isOf v) h g) (r0 - z0) ?_ ?_
    · simp (disch := first | omega | (simp only [lnv]; omega)) only [wlk, ↓get_put', ↓reduceIte, seval, f0, f1, f2, f3, f4, f18, f19, f20, f21, en]
      refine ⟨z0, r0, by omega, by omega, by omega, by omega, .inl rfl, .inl rfl, ?_⟩
      refine ⟨?_, ?_, ?_, ?_, ?_, ?_, ?_, ?_, ?_, ?_, rb, ⟨rfl, Nat.le_refl _, fun _ _ _ => rfl⟩⟩
      all_goals first | trivial | rfl
    rintro I hI k t g ⟨z, r, rfl, hz, hzr, hr, x1, x2, f0, f1, f2, f3, f4, f18, f19, f20, f21, f22, rb, st⟩
    have hfg := st.fl hf
    have W1 := rb.ws
    by_cases hlt : z < r
    case pos =>
      have hc : ((z : Int) + (r : Int)).toNat / 2 = (z + r) / 2 := by omega
      have hc2 : ((z : Int) + (r : Int)) / 2 = (((z + r) / 2 : Nat) : Int) := by omega
      have hc3 : (((mid + m - 1 : Nat) : Int) - (((z + r) / 2 : Nat) : Int)).toNat = mid + m - 1 - (z + r) / 2 := by omega
      have ga : (rwK L p N).getD (mid + m - 1 - (z + r) / 2) default = L.getD (p (mid + m - 1 - (z + r) / 2)) default := rwK_getD (by omega)
      have gb : (rwK L p N).getD ((z + r) / 2) default = L.getD (p ((z + r) / 2)) default := rwK_getD (by omega)
      have d1 : ((z : Int) < (r : Int)) = True := eq_true (by omega)
      have l1 := ln p
      repeat' (first
        | refine St.h ?_
        | simp (disch := first | omega | (simp only [lnv]; omega)) only [wlk, ↓get_put', ↓reduceIte, seval, f0, f1, f2, f3, f4, f18, f19, f20, f21, f22, d1, hc, hc2, hc3, W1.ix, W1.la, ga, gb, Int.toNat_natCast]
        | (with_reducible (first | apply cd_split | apply gd_split)) <;> (intro hc; (try simp only [hcn] at hc); (try simp only [hc]); (try simp only [hcl] at hc); try omega))
      refine CL.stay (byKey12_ok (a := L.getD (p (mid + m - 1 - (z + r) / 2)) default) (b := L.getD (p ((z + r) / 2)) default) hfg) fun g3 s3 => ?_
      have rb3 := rb.grow s3
      have st3 := st.trans (s3.mono fun _ _ hq => hq.elim)
      cases hk : klK L (p (mid + m - 1 - (z + r) / 2)) (p ((z + r) / 2)) with
      | false =>
        have d2 := cmpW_f hk
        repeat' (first
          | refine St.h ?_
          | simp (disch := first | omega | (simp only [lnv]; omega)) only [wlk, ↓get_put', ↓reduceIte, seval, f0, f1, f2, f3, f4, f18, f19, f20, f21, f22, d2]
          | (with_reducible (first | apply cd_split | apply gd_split)) <;> (intro hc; (try simp only [hcn] at hc); (try simp only [hc]); (try simp only [hcl] at hc); try omega))
        refine lp_next hI (r - ((z + r) / 2 + 1)) (by omega) ⟨(z + r) / 2 + 1, r, rfl, by omega, by omega, by omega, .inr (by rw [Nat.add_sub_cancel, show mid + m - ((z + r) / 2 + 1) = mid + m - 1 - (z + r) / 2 by omega]; exact hk), x2, by simp (disch := first | omega | (simp only [lnv]; omega)) only [wlk, ↓get_put', ↓reduceIte, seval, f0], by simp (disch := first | omega | (simp only [lnv]; omega)) only [wlk, ↓get_put', ↓reduceIte, seval, f1], by simp (disch := first | omega | (simp only [lnv]; omega)) only [wlk, ↓get_put', ↓reduceIte, seval, f2], by simp (disch := first | omega | (simp only [lnv]; omega)) only [wlk, ↓get_put', ↓reduceIte, seval, f3], by simp (disch := first | omega | (simp only [lnv]; omega)) only [wlk, ↓get_put', ↓reduceIte, seval, f4], by simp (disch := first | omega | (simp only [lnv]; omega)) only [wlk, ↓get_put', ↓reduceIte, seval, f18], by simp (disch := first | omega | (simp only [lnv]; omega)) only [wlk, ↓get_put', ↓reduceIte, seval, f19], by simp (disch := first | omega | (simp only [lnv]; omega)) only [wlk, ↓get_put', ↓reduceIte, seval]; rfl, by simp (disch := first | omega | (simp only [lnv]; omega)) only [wlk, ↓get_put', ↓reduceIte, seval, f21], by simp (disch := first | omega | (simp only [lnv]; omega)) only [wlk, ↓get_put', ↓reduceIte, seval, f22], rb3, st3⟩
      | true =>
        have d2 := cmpW_t hk
        repeat' (first
          | refine St.h ?_
          | simp (disch := first | omega | (simp only [lnv]; omega)) only [wlk, ↓get_put', ↓reduceIte, seval, f0, f1, f2, f3, f4, f18, f19, f20, f21, f22, d2]
          | (with_reducible (first | apply cd_split | apply gd_split)) <;> (intro hc; (try simp only [hcn] at hc); (try simp only [hc]); (try simp only [hcl] at hc); try omega))
        refine lp_next hI ((z + r) / 2 - z) (by omega) ⟨z, (z + r) / 2, rfl, by omega, by omega, by omega, x1, .inr hk, by simp (disch := first | omega | (simp only [lnv]; omega)) only [wlk, ↓get_put', ↓reduceIte, seval, f0], by simp (disch := first | omega | (simp only [lnv]; omega)) only [wlk, ↓get_put', ↓reduceIte, seval, f1], by simp (disch := first | omega | (simp only [lnv]; omega)) only [wlk, ↓get_put', ↓reduceIte, seval, f2], by simp (disch := first | omega | (simp only [lnv]; omega)) only [wlk, ↓get_put', ↓reduceIte, seval, f3], by simp (disch := first | omega | (simp only [lnv]; omega)) only [wlk, ↓get_put', ↓reduceIte, seval, f4], by simp (disch := first | omega | (simp only [lnv]; omega)) only [wlk, ↓get_put', ↓reduceIte, seval, f18], by simp (disch := first | omega | (simp only [lnv]; omega)) only [wlk, ↓get_put', ↓reduceIte, seval, f19], by simp (disch := first | omega | (simp only [lnv]; omega)) only [wlk, ↓get_put', ↓reduceIte, seval, f20], by simp (disch := first | omega | (simp only [lnv]; omega)) only [wlk, ↓get_put', ↓reduceIte, seval], by simp (disch := first | omega | (simp only [lnv]; omega)) only [wlk, ↓get_put', ↓reduceIte, seval, f22], rb3, st3⟩
    obtain rfl : z = r := by omega
    have d1 : ((z : Int) < (z : Int)) = False := eq_false (by omega)
    obtain ⟨e, he⟩ : ∃ e, e = mid + m - z := ⟨_, rfl⟩
    have ee : ((mid + m : Nat) : Int) - (z : Int) = (e : Int) := by omega
    have w1 : z = a ∨ e = b ∨ ltK L (p (z - 1)) (p e) := by
      rcases x1 with h | h
      · by_cases hg : m > mid
        · have := (hz0 hg).1; right; left; omega
        · have := (hr0 (by omega)).1; left; omega
      · by_cases hza : z = a
        · exact .inl hza
        · by_cases heb : e = b
          · exact .inr (.inl heb)
          · rw [← he] at h
            exact .inr (.inr (ltK_no h fun e2 => S (z - 1) e (by omega) (by omega) (by omega) (by omega) e2))
    have w2 : e = m ∨ z = m ∨ ltK L (p (e - 1)) (p z) := by
      rcases x2 with h | h
      · by_cases hg : m > mid
        · have := (hz0 hg).2; left; omega
        · have := (hr0 (by omega)).2; right; left; omega
      · rw [show mid + m - 1 - z = e - 1 by omega] at h
        exact .inr (.inr (ltK_kl h))
    obtain ⟨H1, H2, H3, H4, H5, H6, H7⟩ := rot_half (c := mid) (s := z) (e := e) (by omega) (by omega) (by omega) (by omega) A Bs S (by omega) w1 w2
    have hper := rot_per (p := p) (a := a) (b := b) (s := z) (i := m - z) (j := e - m) (by omega) (by omega)
    generalize hq0 : rotK p z (m - z) (e - m) = q0 at *
    have fin : ∀ t : F, ∀ g1 : H, ∀ q1 : Nat → Nat, get 0 t = v → get 3 t = .i .i64 (b : Int) → get 4 t = .f 40 [] → get 18 t = .i .i64 (mid : Int) → get 24 t = .i .i64 (e : Int) → Per q0 q1 a mid → Srt L q1 a mid → Rw g1 v (rwK L q1 N) → Stay (isOf v) h g1 → Ok Try.prog 220 s58_74 t g1 (FnK [] Q) := fun t g1 q1 f0 f3 f4 f18 f24 P1 S1 R1 st1 => by
      have hf1 := st1.fl hf
      have same : ∀ k, mid ≤ k → k < b → q1 k = q0 k := fun k hk _ => P1.out k (.inr hk)
      by_cases c1 : mid < e ∧ e < b
      · have d1 : ((mid : Int) < (e : Int)) = True := eq_true (by omega)
        have d2 : ((e : Int) < (b : Int)) = True := eq_true (by omega)
        repeat' (first
          | refine St.h ?_
          | simp (disch := first | omega | (simp only [lnv]; omega)) only [wlk, ↓get_put', ↓reduceIte, seval, f0, f3, f4, f18, f24, d1, d2]
          | (with_reducible (first | apply cd_split | apply gd_split)) <;> (intro hc; (try simp only [hcn] at hc); (try simp only [hc]); (try simp only [hcl] at hc); try omega))
        refine CL.mk (ih (p := q1) (a := mid) (m := e) (b := b) (by omega) R1 c1.1 c1.2 h3 (srt_out H4 fun k k1 k2 => same k k1 (by omega)) (srt_out H5 fun k k1 k2 => same k (by omega) k2) (fun i j i1 i2 i3 i4 i5 => by
          rw [same i i1 (by omega), same j (by omega) i4] at *
          exact H6 i j i1 i2 i3 i4 i5) hf1) ?_
        rintro y g2 ⟨q2, P2, S2, R2, s2⟩
        repeat' (first
          | refine St.h ?_
          | simp (disch := first | omega | (simp only [lnv]; omega)) only [wlk, ↓get_put', ↓reduceIte, seval]
          | (with_reducible (first | apply cd_split | apply gd_split)) <;> (intro hc; (try simp only [hcn] at hc); (try simp only [hc]); (try simp only [hcl] at hc); try omega))
        subst hQ
        refine ⟨q2, ?_, srt_glue (srt_out S1 fun k k1 k2 => P2.out k (.inl k2)) S2 (crs_per2 (crs_per H7 P1) P2), R2, st1.trans s2⟩
        exact (hper.trans (P1.wide (Nat.le_refl _) (by omega))).trans (P2.wide (by omega) (Nat.le_refl _))
      · have hs : Srt L q0 mid b := by
          by_cases c2 : mid < e
          · obtain rfl : e = b := by omega
            exact H4
          · obtain rfl : e = mid := by omega
            exact H5
        have done : ∃ q, Per p q a b ∧ Srt L q a b ∧ Rw g1 v (rwK L q N) ∧ Stay (isOf v) h g1 :=
          ⟨q1, hper.trans (P1.wide (Nat.le_refl _) (by omega)), srt_glue S1 (srt_out hs same) (crs_per H7 P1), R1, st1⟩
        by_cases c2 : mid < e
        · have d1 : ((mid : Int) < (e : Int)) = True := eq_true (by omega)
          have d2 : ((e : Int) < (b : Int)) = False := eq_false (by omega)
          repeat' (first
            | refine St.h ?_
            | simp (disch := first | omega | (simp only [lnv]; omega)) only [wlk, ↓get_put', ↓reduceIte, seval, f0, f3, f4, f18, f24, d1, d2]
            | (with_reducible (first | apply cd_split | apply gd_split)) <;> (intro hc; (try simp only [hcn] at hc); (try simp only [hc]); (try simp only [hcl] at hc); try omega))
          subst hQ
          exact done
        · have d1 : ((mid : Int) < (e : Int)) = False := eq_false (by omega)
          repeat' (first
            | refine St.h ?_
            | simp (disch := first | omega | (simp only [lnv]; omega)) only [wlk, ↓get_put', ↓reduceIte, seval, f0, f3, f4, f18, f24, d1]
            | (with_reducible (first | apply cd_split | apply gd_split)) <;> (intro hc; (try simp only [hcn] at hc); (try simp only [hc]); (try simp only [hcl] at hc); try omega))
          subst hQ
          exact done
    have mid' : ∀ t : F, ∀ g1 : H, get 0 t = v → get 1 t = .i .i64 (a : Int) → get 3 t = .i .i64 (b : Int) → get 4 t = .f 40 [] → get 18 t = .i .i64 (mid : Int) → get 20 t = .i .i64 (z : Int) → get 24 t = .i .i64 (e : Int) → Rw g1 v (rwK L q0 N) → Stay (isOf v) h g1 → Ok Try.prog 220 s58_75 t g1 (FnK [] Q) := fun t g1 f0 f1 f3 f4 f18 f20 f24 R1 st1 => by
      have hf1 := st1.fl hf
      by_cases c1 : a < z ∧ z < mid
      · have d1 : ((a : Int) < (z : Int)) = True := eq_true (by omega)
        have d2 : ((z : Int) < (mid : Int)) = True := eq_true (by omega)
        repeat' (first
          | refine fin _ _ _ ?_ ?_ ?_ ?_ ?_ P1 S1 R2 (st1.trans s2)
          | refine St.h ?_
          | simp (disch := first | omega | (simp only [lnv]; omega)) only [wlk, ↓get_put', ↓reduceIte, seval, f0, f1, f3, f4, f18, f20, f24, d1, d2]
          | (with_reducible (first | apply cd_split | apply gd_split)) <;> (intro hc; (try simp only [hcn] at hc); (try simp only [hc]); (try simp only [hcl] at hc); try omega))
        refine CL.mk (ih (p := q0) (a := a) (m := z) (b := mid) (by omega) R1 c1.1 c1.2 (by omega) H1 H2 H3 hf1) ?_
        rintro y g2 ⟨q1, P1, S1, R2, s2⟩
        repeat' (first
          | refine fin _ _ q1 ?_ ?_ ?_ ?_ ?_ P1 S1 R2 (st1.trans s2)
          | refine St.h ?_
          | simp (disch := first | omega | (simp only [lnv]; omega)) only [wlk, ↓get_put', ↓reduceIte, seval, f0, f1, f3, f4, f18, f20, f24]
          | (with_reducible (first | apply cd_split | apply gd_split)) <;> (intro hc; (try simp only [hcn] at hc); (try simp only [hc]); (try simp only [hcl] at hc); try omega))
        all_goals first | (simp (disch := first | omega | (simp only [lnv]; omega)) only [wlk, ↓get_put', ↓reduceIte, seval, f0]; done) | (simp (disch := first | omega | (simp only [lnv]; omega)) only [wlk, ↓get_put', ↓reduceIte, seval, f1]; done) | (simp (disch := first | omega | (simp only [lnv]; omega)) only [wlk, ↓get_put', ↓reduceIte, seval, f3]; done) | (simp (disch := first | omega | (simp only [lnv]; omega)) only [wlk, ↓get_put', ↓reduceIte, seval, f4]; done) | (simp (disch := first | omega | (simp only [lnv]; omega)) only [wlk, ↓get_put', ↓reduceIte, seval, f18]; done) | (simp (disch := first | omega | (simp only [lnv]; omega)) only [wlk, ↓get_put', ↓reduceIte, seval, f20]; done) | (simp (disch := first | omega | (simp only [lnv]; omega)) only [wlk, ↓get_put', ↓reduceIte, seval, f24]; done) | (simp (disch := first | omega | (simp only [lnv]; omega)) only [wlk, ↓get_put', ↓reduceIte, seval]; done)
      · have hs : Srt L q0 a mid := by
          by_cases c2 : a < z
          · obtain rfl : z = mid := by omega
            exact H1
          · obtain rfl : z = a := by omega
            exact H2
        by_cases c2 : a < z
        · have d1 : ((a : Int) < (z : Int)) = True := eq_true (by omega)
          have d2 : ((z : Int) < (mid : Int)) = False := eq_false (by omega)
          repeat' (first
            | refine fin _ _ q0 ?_ ?_ ?_ ?_ ?_ Per.refl hs R1 st1
            | refine St.h ?_
            | simp (disch := first | omega | (simp only [lnv]; omega)) only [wlk, ↓get_put', ↓reduceIte, seval, f0, f1, f3, f4, f18, f20, f24, d1, d2]
            | (with_reducible (first | apply cd_split | apply gd_split)) <;> (intro hc; (try simp only [hcn] at hc); (try simp only [hc]); (try simp only [hcl] at hc); try omega))
          all_goals first | (simp (disch := first | omega | (simp only [lnv]; omega)) only [wlk, ↓get_put', ↓reduceIte, seval, f0]; done) | (simp (disch := first | omega | (simp only [lnv]; omega)) only [wlk, ↓get_put', ↓reduceIte, seval, f1]; done) | (simp (disch := first | omega | (simp only [lnv]; omega)) only [wlk, ↓get_put', ↓reduceIte, seval, f3]; done) | (simp (disch := first | omega | (simp only [lnv]; omega)) only [wlk, ↓get_put', ↓reduceIte, seval, f4]; done) | (simp (disch := first | omega | (simp only [lnv]; omega)) only [wlk, ↓get_put', ↓reduceIte, seval, f18]; done) | (simp (disch := first | omega | (simp only [lnv]; omega)) only [wlk, ↓get_put', ↓reduceIte, seval, f20]; done) | (simp (disch := first | omega | (simp only [lnv]; omega)) only [wlk, ↓get_put', ↓reduceIte, seval, f24]; done) | (simp (disch := first | omega | (simp only [lnv]; omega)) only [wlk, ↓get_put', ↓reduceIte, seval]; done)
        · have d1 : ((a : Int) < (z : Int)) = False := eq_false (by omega)
          repeat' (first
            | refine fin _ _ q0 ?_ ?_ ?_ ?_ ?_ Per.refl hs R1 st1
            | refine St.h ?_
            | simp (disch := first | omega | (simp only [lnv]; omega)) only [wlk, ↓get_put', ↓reduceIte, seval, f0, f1, f3, f4, f18, f20, f24, d1]
            | (with_reducible (first | apply cd_split | apply gd_split)) <;> (intro hc; (try simp only [hcn] at hc); (try simp only [hc]); (try simp only [hcl] at hc); try omega))
          all_goals first | (simp (disch := first | omega | (simp only [lnv]; omega)) only [wlk, ↓get_put', ↓reduceIte, seval, f0]; done) | (simp (disch := first | omega | (simp only [lnv]; omega)) only [wlk, ↓get_put', ↓reduceIte, seval, f1]; done) | (simp (disch := first | omega | (simp only [lnv]; omega)) only [wlk, ↓get_put', ↓reduceIte, seval, f3]; done) | (simp (disch := first | omega | (simp only [lnv]; omega)) only [wlk, ↓get_put', ↓reduceIte, seval, f4]; done) | (simp (disch := first | omega | (simp only [lnv]; omega)) only [wlk, ↓get_put', ↓reduceIte, seval, f18]; done) | (simp (disch := first | omega | (simp only [lnv]; omega)) only [wlk, ↓get_put', ↓reduceIte, seval, f20]; done) | (simp (disch := first | omega | (simp only [lnv]; omega)) only [wlk, ↓get_put', ↓reduceIte, seval, f24]; done) | (simp (disch := first | omega | (simp only [lnv]; omega)) only [wlk, ↓get_put', ↓reduceIte, seval]; done)
    by_cases c1 : z < m ∧ m < e
    · have d2 : ((z : Int) < (m : Int)) = True := eq_true (by omega)
      have d3 : ((m : Int) < (e : Int)) = True := eq_true (by omega)
      repeat' (first
        | refine St.h ?_
        | simp (disch := first | omega | (simp only [lnv]; omega)) only [wlk, ↓get_put', ↓reduceIte, seval, f0, f1, f2, f3, f4, f18, f19, f20, f21, f22, d1, d2, d3, ee]
        | (with_reducible (first | apply cd_split | apply gd_split)) <;> (intro hc; (try simp only [hcn] at hc); (try simp only [hc]); (try simp only [hcl] at hc); try omega))
      refine CL.mk (rot_ok (p := p) (a := z) (m := m) (b := e) rb hN c1.1 c1.2 (by omega) hfg) ?_
      rintro y g2 ⟨R2, s2⟩
      rw [hq0] at R2
      repeat' (first
        | refine mid' _ _ ?_ ?_ ?_ ?_ ?_ ?_ ?_ R2 (st.trans s2)
        | refine St.h ?_
        | simp (disch := first | omega | (simp only [lnv]; omega)) only [wlk, ↓get_put', ↓reduceIte, seval, f0, f1, f2, f3, f4, f18, f19, f20, f21, f22]
        | (with_reducible (first | apply cd_split | apply gd_split)) <;> (intro hc; (try simp only [hcn] at hc); (try simp only [hc]); (try simp only [hcl] at hc); try omega))
      all_goals first | (simp (disch := first | omega | (simp only [lnv]; omega)) only [wlk, ↓get_put', ↓reduceIte, seval, f0]; done) | (simp (disch := first | omega | (simp only [lnv]; omega)) only [wlk, ↓get_put', ↓reduceIte, seval, f1]; done) | (simp (disch := first | omega | (simp only [lnv]; omega)) only [wlk, ↓get_put', ↓reduceIte, seval, f3]; done) | (simp (disch := first | omega | (simp only [lnv]; omega)) only [wlk, ↓get_put', ↓reduceIte, seval, f4]; done) | (simp (disch := first | omega | (simp only [lnv]; omega)) only [wlk, ↓get_put', ↓reduceIte, seval, f18]; done) | (simp (disch := first | omega | (simp only [lnv]; omega)) only [wlk, ↓get_put', ↓reduceIte, seval, f20]; done) | (simp (disch := first | omega | (simp only [lnv]; omega)) only [wlk, ↓get_put', ↓reduceIte, seval, f24]; done) | (simp (disch := first | omega | (simp only [lnv]; omega)) only [wlk, ↓get_put', ↓reduceIte, seval]; done)
    · have hq : q0 = p := by
        rw [← hq0]
        by_cases c2 : z < m
        · rw [show e - m = 0 by omega, rot_n0]
        · rw [show m - z = 0 by omega, rot_0n]
      rw [hq] at mid'
      by_cases c2 : z < m
      · have d2 : ((z : Int) < (m : Int)) = True := eq_true (by omega)
        have d3 : ((m : Int) < (e : Int)) = False := eq_false (by omega)
        repeat' (first
          | refine mid' _ _ ?_ ?_ ?_ ?_ ?_ ?_ ?_ rb st
          | refine St.h ?_
          | simp (disch := first | omega | (simp only [lnv]; omega)) only [wlk, ↓get_put', ↓reduceIte, seval, f0, f1, f2, f3, f4, f18, f19, f20, f21, f22, d1, d2, d3, ee]
          | (with_reducible (first | apply cd_split | apply gd_split)) <;> (intro hc; (try simp only [hcn] at hc); (try simp only [hc]); (try simp only [hcl] at hc); try omega))
        all_goals first | (simp (disch := first | omega | (simp only [lnv]; omega)) only [wlk, ↓get_put', ↓reduceIte, seval, f0]; done) | (simp (disch := first | omega | (simp only [lnv]; omega)) only [wlk, ↓get_put', ↓reduceIte, seval, f1]; done) | (simp (disch := first | omega | (simp only [lnv]; omega)) only [wlk, ↓get_put', ↓reduceIte, seval, f3]; done) | (simp (disch := first | omega | (simp only [lnv]; omega)) only [wlk, ↓get_put', ↓reduceIte, seval, f4]; done) | (simp (disch := first | omega | (simp only [lnv]; omega)) only [wlk, ↓get_put', ↓reduceIte, seval, f18]; done) | (simp (disch := first | omega | (simp only [lnv]; omega)) only [wlk, ↓get_put', ↓reduceIte, seval, f20]; done) | (simp (disch := first | omega | (simp only [lnv]; omega)) only [wlk, ↓get_put', ↓reduceIte, seval, f24]; done) | (simp (disch := first | omega | (simp only [lnv]; omega)) only [wlk, ↓get_put', ↓reduceIte, seval]; done)
      · have d2 : ((z : Int) < (m : Int)) = False := eq_false (by omega)
        repeat' (first
          | refine mid' _ _ ?_ ?_ ?_ ?_ ?_ ?_ ?_ rb st
          | refine St.h ?_
          | simp (disch := first | omega | (simp only [lnv]; omega)) only [wlk, ↓get_put', ↓reduceIte, seval, f0, f1, f2, f3, f4, f18, f19, f20, f21, f22, d1, d2, ee]
          | (with_reducible (first | apply cd_split | apply gd_split)) <;> (intro hc; (try simp only [hcn] at hc); (try simp only [hc]); (try simp only [hcl] at hc); try omega))
        all_goals first | (simp (disch := first | omega | (simp only [lnv]; omega)) only [wlk, ↓get_put', ↓reduceIte, seval, f0]; done) | (simp (disch := first | omega | (simp only [lnv]; omega)) only [wlk, ↓get_put', ↓reduceIte, seval, f1]; done) | (simp (disch := first | omega | (simp only [lnv]; omega)) only [wlk, ↓get_put', ↓reduceIte, seval, f3]; done) | (simp (disch := first | omega | (simp only [lnv]; omega)) only [wlk, ↓get_put', ↓reduceIte, seval, f4]; done) | (simp (disch := first | omega | (simp only [lnv]; omega)) only [wlk, ↓get_put', ↓reduceIte, seval, f18]; done) | (simp (disch := first | omega | (simp only [lnv]; omega)) only [wlk, ↓get_put', ↓reduceIte, seval, f20]; done) | (simp (disch := first | omega | (simp only [lnv]; omega)) only [wlk, ↓get_put', ↓reduceIte, seval, f24]; done) | (simp (disch := first | omega | (simp only [lnv]; omega)) only [wlk, ↓get_put', ↓reduceIte, seval]; done)
  by_cases hg : mid < m
  · obtain ⟨e1, e2⟩ := hz0 hg
    have d1 : ((mid : Int) < (m : Int)) = True := eq_true (by omega)
    have e3 : (mid : Int) + (m : Int) - (b : Int) = (z0 : Int) := by omega
    repeat' (first
      | refine rest _ ?_ ?_ ?_ ?_ ?_ ?_ ?_ ?_ ?_
      | refine St.h ?_
      | simp (disch := first | omega | (simp only [lnv]; omega)) only [wlk, ↓get_put', ↓reduceIte, seval, d0, d00, hm, hm2, d1, e3, Int.toNat_natCast]
      | (with_reducible (first | apply cd_split | apply gd_split)) <;> (intro hc; (try simp only [hcn] at hc); (try simp only [hc]); (try simp only [hcl] at hc); try omega))
    all_goals first
      | (simp (disch := first | omega | (simp only [lnv]; omega)) only [wlk, ↓get_put', ↓reduceIte, seval]; done)
      | (simp (disch := first | omega | (simp only [lnv]; omega)) only [wlk, ↓get_put', ↓reduceIte, seval, e3]; done)
      | rfl
      | rw [e1]
      | rw [e2]
      | (simp (disch := first | omega | (simp only [lnv]; omega)) only [wlk, ↓get_put', ↓reduceIte, seval]; rfl)
  · obtain ⟨e1, e2⟩ := hr0 (by omega)
    have d1 : ((mid : Int) < (m : Int)) = False := eq_false (by omega)
    repeat' (first
      | refine rest _ ?_ ?_ ?_ ?_ ?_ ?_ ?_ ?_ ?_
      | refine St.h ?_
      | simp (disch := first | omega | (simp only [lnv]; omega)) only [wlk, ↓get_put', ↓reduceIte, seval, d0, d00, hm, hm2, d1, Int.toNat_natCast]
      | (with_reducible (first | apply cd_split | apply gd_split)) <;> (intro hc; (try simp only [hcn] at hc); (try simp only [hc]); (try simp only [hcl] at hc); try omega))
    all_goals first
      | (simp (disch := first | omega | (simp only [lnv]; omega)) only [wlk, ↓get_put', ↓reduceIte, seval]; done)
      | rfl
      | rw [e1]
      | rw [e2]
      | (simp (disch := first | omega | (simp only [lnv]; omega)) only [wlk, ↓get_put', ↓reduceIte, seval]; rfl)
theorem sm_all (hN : N ≤ 1000) : ∀ K, SmOk L N K
  | 0 => fun hK => absurd hK (Nat.not_lt_zero _)
  | K + 1 => fun hK rb h1 h2 h3 A Bs S hf => sm_step hN (sm_all hN K) hK rb h1 h2 h3 A Bs S hf
end
end Go.Proofs.Ythncpgkpkdolfaa

set_option linter.all false
namespace Go.Ev
open Go
/-- is the one at place i the last of its key -/
def lasK (M : List Wri) (i : Nat) : Prop := i + 1 = M.length ∨ (M.getD (i + 1) default).key ≠ (M.getD i default).key
instance (M : List Wri) (i : Nat) : Decidable (lasK M i) := by unfold lasK; infer_instance
def kpK (M : List Wri) : Nat → List Wri
  | 0 => []
  | i + 1 => if lasK M i then kpK M i ++ [M.getD i default] else kpK M i
theorem kpK_len (M : List Wri) : ∀ i, (kpK M i).length ≤ i
  | 0 => Nat.le_refl _
  | i + 1 => by
    have := kpK_len M i
    unfold kpK; split
    · rw [List.length_append]; simp; omega
    · omega
theorem kpK_mem {M : List Wri} {m : Wri} : ∀ i, m ∈ kpK M i ↔ ∃ j, j < i ∧ lasK M j ∧ m = M.getD j default
  | 0 => ⟨(fun h => by cases h), fun ⟨j, h, _⟩ => absurd h (Nat.not_lt_zero _)⟩
  | i + 1 => by
    have ih := kpK_mem (M := M) (m := m) i
    unfold kpK
    split
    · rename_i hl
      rw [List.mem_append, ih, List.mem_singleton]
      constructor
      · rintro (⟨j, h1, h2, h3⟩ | h)
        · exact ⟨j, by omega, h2, h3⟩
        · exact ⟨i, by omega, hl, h⟩
      · rintro ⟨j, h1, h2, h3⟩
        by_cases e : j = i
        · right; rw [← e]; exact h3
        · exact .inl ⟨j, by omega, h2, h3⟩
    · rename_i hl
      rw [ih]
      constructor
      · rintro ⟨j, h1, h2, h3⟩; exact ⟨j, by omega, h2, h3⟩
      · rintro ⟨j, h1, h2, h3⟩
        by_cases e : j = i
        · rw [e] at h2; exact absurd h2 hl
        · exact ⟨j, by omega, h2, h3⟩
/-- keys don't fall -/
def Wk (M : List Wri) : Prop := ∀ i j, i < j → j < M.length → Op.bytesLess (M.getD i default).key (M.getD j default).key = true ∨ (M.getD i default).key = (M.getD j default).key
theorem kpK_lt {M : List Wri} (h : Wk M) {i j : Nat} (hl : lasK M i) (hij : i < j) (hj : j < M.length) : Op.bytesLess (M.getD i default).key (M.getD j default).key = true := by
  have hne := hl.resolve_left (by omega)
  have h1 := (h i (i + 1) (by omega) (by omega)).resolve_right fun e => hne e.symm
  by_cases e : i + 1 = j
  · rw [← e]; exact h1
  · rcases h (i + 1) j (by omega) hj with h2 | h2
    · exact bl_trans h1 h2
    · rw [← h2]; exact h1
theorem kpK_up {M : List Wri} (h : Wk M) : ∀ i, i ≤ M.length → Up (kpK M i)
  | 0, _ => List.Pairwise.nil
  | i + 1, hi => by
    have ih := kpK_up h i (by omega)
    unfold kpK; split
    · rename_i hl
      refine List.pairwise_append.2 ⟨ih, List.pairwise_singleton .., fun a ha b hb => ?_⟩
      rw [List.mem_singleton] at hb
      subst hb
      obtain ⟨j, h1, h2, rfl⟩ := (kpK_mem i).1 ha
      exact kpK_lt h h2 h1 (by omega)
    · exact ih
theorem neatB_mem {L : List Wri} {m : Wri} : ∀ {j : Nat}, j ≤ L.length → (m ∈ neatB (L.take j) ↔ ∃ i, i < j ∧ L.getD i default = m ∧ ∀ k, i < k → k < j → (L.getD k default).key ≠ m.key)
  | 0, _ => ⟨(fun h => by simp [neatB] at h), fun ⟨i, h, _⟩ => absurd h (Nat.not_lt_zero _)⟩
  | j + 1, hj => by
    rw [neatB_step (by omega), insW_mem (neatB_up _), neatB_mem (by omega)]
    constructor
    · rintro (e | ⟨⟨i, h1, h2, h3⟩, h4⟩)
      · exact ⟨j, by omega, e.symm, fun k h1 h2 => by omega⟩
      · refine ⟨i, by omega, h2, fun k k1 k2 => ?_⟩
        by_cases e : k = j
        · rw [e]; exact fun h => h4 h.symm
        · exact h3 k k1 (by omega)
    · rintro ⟨i, h1, h2, h3⟩
      by_cases e : i = j
      · left; rw [← e]; exact h2.symm
      · refine .inr ⟨⟨i, by omega, h2, fun k k1 k2 => h3 k k1 (by omega)⟩, fun h => h3 j (by omega) (by omega) h.symm⟩
theorem kpK_neat {L : List Wri} {q : Nat → Nat} (hm : ∀ x, (∃ k, k < L.length ∧ q k = x) ↔ x < L.length) (hs : Srt L q 0 L.length) : kpK (rwK L q L.length) L.length = neatB L := by
  have ln : (rwK L q L.length).length = L.length := rwK_len
  have gt : ∀ i, i < L.length → (rwK L q L.length).getD i default = L.getD (q i) default := fun i hi => rwK_getD hi
  have hw : Wk (rwK L q L.length) := fun i j hij hj => by
    rw [ln] at hj
    rw [gt i (by omega), gt j hj]
    rcases hs i j (Nat.zero_le _) hij hj with h | ⟨h, _⟩
    · exact .inl h
    · exact .inr h
  refine up_ext (kpK_up hw _ (by rw [ln]; exact Nat.le_refl _)) (neatB_up L) fun m => ?_
  have hb := neatB_mem (L := L) (m := m) (j := L.length) (Nat.le_refl _)
  rw [List.take_length] at hb
  rw [kpK_mem, hb]
  constructor
  · rintro ⟨j, hj, hl, rfl⟩
    refine ⟨q j, (hm _).1 ⟨j, hj, rfl⟩, (gt j hj).symm, fun k hk hk2 he => ?_⟩
    obtain ⟨j2, h1, rfl⟩ := (hm k).2 hk2
    rw [← gt j2 h1] at he
    rcases Nat.lt_trichotomy j j2 with h | h | h
    · have h5 := kpK_lt hw hl h (by rw [ln]; exact h1)
      exact bl_ne h5 he.symm
    · rw [h] at hk; omega
    · rcases hs j2 j (Nat.zero_le _) h hj with h5 | ⟨_, h5⟩
      · unfold klK at h5
        rw [← gt j2 h1, ← gt j hj] at h5
        exact bl_ne h5 he
      · omega
  · rintro ⟨i, hi, rfl, h3⟩
    obtain ⟨j, hj, rfl⟩ := (hm i).2 hi
    refine ⟨j, hj, ?_, (gt j hj).symm⟩
    by_cases e : j + 1 = L.length
    · exact .inl (by rw [ln]; exact e)
    · right
      rw [gt j hj, gt (j + 1) (by omega)]
      intro he
      rcases hs j (j + 1) (Nat.zero_le _) (by omega) (by omega) with h5 | ⟨_, h5⟩
      · exact bl_ne h5 he.symm
      · exact h3 (q (j + 1)) h5 ((hm _).1 ⟨j + 1, by omega, rfl⟩) he
end Go.Ev

set_option maxRecDepth 1000000
set_option linter.all false
namespace Go.Proofs.Ythncpgkpkdolfaa
open Go Go.Ev
noncomputable abbrev s15_0 : CC := (CC.seq (CC.region [(wB 2 (doMove (O.c (V.b Bool.false))))]) CC.ret)
noncomputable abbrev s15_1 : CC := (CC.cond (tm 7) s15_0 CC.skip)
noncomputable abbrev s15_2 : CC := (CC.seq (CC.region [(wB 5 (doMove (tm 0))), (wB 6 (doLen (tm 5))), (wB 7 (bin2 fGtr (tm 6) (oN 8)))]) s15_1)
noncomputable abbrev s15_3 : CC := (CC.cond (tm 11) CC.skip (CC.exit 0))
noncomputable abbrev s15_4 : CC := (CC.seq (CC.region [(wB 2 (doMove (O.c (V.b Bool.false))))]) CC.ret)
noncomputable abbrev s15_5 : CC := (CC.cond (tm 17) s15_4 CC.skip)
noncomputable abbrev s15_6 : CC := (CC.seq (CC.region [(wB 15 (doLoadA 3 (tm 4))), (wB 16 (doCall 36 [(tm 15)])), (wB 17 (doNot (tm 16)))]) s15_5)
noncomputable abbrev s15_7 : CC := (CC.seq (CC.region [(wB 2 (doMove (O.c (V.b Bool.false))))]) CC.ret)
noncomputable abbrev s15_8 : CC := (CC.cond (tm 30) s15_7 CC.skip)
noncomputable abbrev s15_9 : CC := (CC.seq (CC.draws [(uB 18 (doMove (tm 3))), (uB 19 (bin2 fGtr (tm 18) (oN 0))), (uB 20 (doMove (tm 19))), (uG 20 true 21 (doMove (tm 0))), (uG 20 true 22 (doMove (tm 3))), (uG 20 true 23 (bin2 fSub (tm 22) (oN 1))), (uG 20 true 24 (doIndexAddr 3 (tm 21) (tm 23))), (uG 20 true 25 (doFieldAddr 0 (tm 24))), (uG 20 true 26 (doLoad (tm 25))), (uG 20 true 27 (doFieldAddr 0 (tm 4))), (uG 20 true 28 (doLoad (tm 27))), (uG 20 true 29 (doSCmp (fun a b c d => !ltS a b c d) (tm 26) (tm 28))), (uB 30 (doPick (tm 20) (tm 29) (O.c (V.b Bool.false))))]) s15_8)
noncomputable abbrev s15_10 : CC := (CC.seq s15_6 s15_9)
noncomputable abbrev s15_11 : CC := (CC.seq (CC.region [(wB 12 (doMove (tm 10))), (wB 13 (doIndexAddr 3 (tm 8) (tm 10))), (wB 14 (doLoadA 3 (tm 13))), (wB 4 (doAlloc 49 [(V.s 0 0), (V.b Bool.false), (V.s 0 0)])), (wB 3 (doMove (tm 12))), (CO.mk G.none D.none Bool.true (CR.mk (doStore 3 (tm 4) (tm 14))))]) s15_10)
noncomputable abbrev s15_12 : CC := (CC.block 1 s15_11)
noncomputable abbrev s15_13 : CC := (CC.region [(wB 31 (bin2 fAdd (tm 10) (oN 1))), (wB 10 (doMove (tm 31)))])
noncomputable abbrev s15_14 : CC := (CC.seq s15_12 s15_13)
noncomputable abbrev s15_15 : CC := (CC.seq s15_3 s15_14)
noncomputable abbrev l15_0 : CC := (CC.seq (CC.region [(wB 11 (bin2 fLss (tm 10) (tm 9)))]) s15_15)
noncomputable abbrev s15_16 : CC := (CC.loop l15_0)
noncomputable abbrev s15_17 : CC := (CC.block 0 s15_16)
noncomputable abbrev s15_18 : CC := (CC.seq (CC.region [(wB 8 (doMove (tm 0))), (wB 9 (doLen (tm 8))), (wB 10 (doMove (oN 0)))]) s15_17)
noncomputable abbrev s15_19 : CC := (CC.seq (CC.region [(wB 2 (doMove (O.c (V.b Bool.true))))]) CC.ret)
noncomputable abbrev s15_20 : CC := (CC.seq s15_18 s15_19)
noncomputable abbrev s15_21 : CC := (CC.seq s15_2 s15_20)
noncomputable abbrev b15 : CC := (CC.seq (CC.region [(wB 2 (doMove (O.c (V.b Bool.false))))]) s15_21)
theorem c15 : compFn Try.prog 15 = ⟨32, b15, [(Rs.tmp (slOf 2))]⟩ := by kernel_rfl
noncomputable abbrev s18_0 : CC := (CC.cond (tm 14) CC.skip (CC.exit 0))
noncomputable abbrev s18_1 : CC := (CC.region [(wB 34 (doMove (tm 4))), (wB 35 (doLoadA 3 (tm 6))), (wB 36 (doBuildSlice 49 1 [(V.s 0 0), (V.b Bool.false), (V.s 0 0)] [(Pt.mk 0 3 (tm 35))])), (wB 37 (doAppend 49 3 (tm 34) (tm 36))), (wB 4 (doMove (tm 37)))])
noncomputable abbrev s18_2 : CC := (CC.cond (tm 33) s18_1 CC.skip)
noncomputable abbrev s18_3 : CC := (CC.seq (CC.draws [(uB 18 (doMove (tm 5))), (uB 19 (bin2 fAdd (tm 18) (oN 1))), (uB 20 (doMove (tm 3))), (uB 21 (doLen (tm 20))), (uB 22 (bin2 fEql (tm 19) (tm 21))), (uB 23 (doMove (tm 22))), (uG 23 false 24 (doMove (tm 3))), (uG 23 false 25 (doMove (tm 5))), (uG 23 false 26 (bin2 fAdd (tm 25) (oN 1))), (uG 23 false 27 (doIndexAddr 3 (tm 24) (tm 26))), (uG 23 false 28 (doFieldAddr 0 (tm 27))), (uG 23 false 29 (doLoad (tm 28))), (uG 23 false 30 (doFieldAddr 0 (tm 6))), (uG 23 false 31 (doLoad (tm 30))), (uG 23 false 32 (doSCmp (fun a b c d => !eqS a b c d) (tm 29) (tm 31))), (uB 33 (doPick (tm 23) (O.c (V.b Bool.true)) (tm 32)))]) s18_2)
noncomputable abbrev s18_4 : CC := (CC.seq (CC.region [(wB 15 (doMove (tm 13))), (wB 16 (doIndexAddr 3 (tm 11) (tm 13))), (wB 17 (doLoadA 3 (tm 16))), (wB 6 (doAlloc 49 [(V.s 0 0), (V.b Bool.false), (V.s 0 0)])), (wB 5 (doMove (tm 15))), (CO.mk G.none D.none Bool.true (CR.mk (doStore 3 (tm 6) (tm 17))))]) s18_3)
noncomputable abbrev s18_5 : CC := (CC.block 1 s18_4)
noncomputable abbrev s18_6 : CC := (CC.region [(wB 38 (bin2 fAdd (tm 13) (oN 1))), (wB 13 (doMove (tm 38)))])
noncomputable abbrev s18_7 : CC := (CC.seq s18_5 s18_6)
noncomputable abbrev s18_8 : CC := (CC.seq s18_0 s18_7)
noncomputable abbrev l18_0 : CC := (CC.seq (CC.region [(wB 14 (bin2 fLss (tm 13) (tm 12)))]) s18_8)
noncomputable abbrev s18_9 : CC := (CC.loop l18_0)
noncomputable abbrev s18_10 : CC := (CC.block 0 s18_9)
noncomputable abbrev s18_11 : CC := (CC.seq (CC.region [(wB 11 (doMove (tm 3))), (wB 12 (doLen (tm 11))), (wB 13 (doMove (oN 0)))]) s18_10)
noncomputable abbrev s18_12 : CC := (CC.seq (CC.region [(wB 39 (doMove (tm 4))), (wB 2 (doMove (tm 39)))]) CC.ret)
noncomputable abbrev s18_13 : CC := (CC.seq s18_11 s18_12)
noncomputable abbrev s18_14 : CC := (CC.seq (CC.region [(wB 4 (doMove (O.c V.l0)))]) s18_13)
noncomputable abbrev s18_15 : CC := (CC.seq (CC.region [(wB 9 (doMove (tm 3))), (wB 10 (doCall 39 [(tm 9), (O.c (V.f 40 []))]))]) s18_14)
noncomputable abbrev s18_16 : CC := (CC.seq (CC.region [(wB 7 (doMove (tm 0))), (wB 8 (doCall 38 [(tm 7)])), (wB 3 (doMove (tm 8)))]) s18_15)
noncomputable abbrev b18 : CC := (CC.seq (CC.region [(wB 2 (doMove (O.c V.l0)))]) s18_16)
theorem c18 : compFn Try.prog 18 = ⟨40, b18, [(Rs.tmp (slOf 2))]⟩ := by kernel_rfl
noncomputable abbrev s9_0 : CC := (CC.seq (CC.region [(wB 4 (doMove (O.c (V.s 0 0)))), (wB 5 (doMove (oN 10)))]) CC.ret)
noncomputable abbrev s9_1 : CC := (CC.cond (tm 19) s9_0 CC.skip)
noncomputable abbrev s9_2 : CC := (CC.seq (CC.region [(wB 9 (doMove (tm 1))), (wB 10 (doCall 15 [(tm 9)])), (wB 11 (doNot (tm 10))), (wB 12 (doMove (tm 11))), (wG 12 false 13 (doMove (tm 0))), (wG 12 false 14 (bin2 fLss (tm 13) (oN 1))), (wB 15 (doPick (tm 12) (O.c (V.b Bool.true)) (tm 14))), (wB 16 (doMove (tm 15))), (wG 16 false 17 (doMove (tm 0))), (wG 16 false 18 (bin2 fGtr (tm 17) (oN 1000000))), (wB 19 (doPick (tm 16) (O.c (V.b Bool.true)) (tm 18)))]) s9_1)
noncomputable abbrev s9_3 : CC := (CC.cond (tm 30) CC.skip (CC.exit 0))
noncomputable abbrev s9_4 : CC := (CC.region [(wB 33 (doLoadA 3 (tm 8))), (wB 34 (doCall 25 [(tm 33)])), (wB 35 (doCall 23 [(tm 6), (tm 34)]))])
noncomputable abbrev s9_5 : CC := (CC.seq (CC.region [(wB 31 (doIndexAddr 3 (tm 27) (tm 29))), (wB 32 (doLoadA 3 (tm 31))), (wB 8 (doAlloc 49 [(V.s 0 0), (V.b Bool.false), (V.s 0 0)])), (CO.mk G.none D.none Bool.true (CR.mk (doStore 3 (tm 8) (tm 32))))]) s9_4)
noncomputable abbrev s9_6 : CC := (CC.block 1 s9_5)
noncomputable abbrev s9_7 : CC := (CC.region [(wB 36 (bin2 fAdd (tm 29) (oN 1))), (wB 29 (doMove (tm 36)))])
noncomputable abbrev s9_8 : CC := (CC.seq s9_6 s9_7)
noncomputable abbrev s9_9 : CC := (CC.seq s9_3 s9_8)
noncomputable abbrev l9_0 : CC := (CC.seq (CC.region [(wB 30 (bin2 fLss (tm 29) (tm 28)))]) s9_9)
noncomputable abbrev s9_10 : CC := (CC.loop l9_0)
noncomputable abbrev s9_11 : CC := (CC.block 0 s9_10)
noncomputable abbrev s9_12 : CC := (CC.seq (CC.region [(wB 27 (doMove (tm 1))), (wB 28 (doLen (tm 27))), (wB 29 (doMove (oN 0)))]) s9_11)
noncomputable abbrev s9_13 : CC := (CC.seq (CC.region [(wB 37 (doCall 27 [(tm 6)])), (wB 38 (doCall 26 [(tm 37)])), (wB 4 (doMove (tm 38))), (wB 5 (doMove (oN 0)))]) CC.ret)
noncomputable abbrev s9_14 : CC := (CC.seq s9_12 s9_13)
noncomputable abbrev s9_15 : CC := (CC.seq (CC.region [(wB 23 (doMove (tm 1))), (wB 24 (doLen (tm 23))), (wB 25 (doCall 24 [(tm 24)])), (wB 26 (doCall 23 [(tm 6), (tm 25)]))]) s9_14)
noncomputable abbrev s9_16 : CC := (CC.seq (CC.region [(wB 20 (doMove (tm 0))), (wB 21 (doCall 24 [(tm 20)])), (wB 22 (doCall 23 [(tm 6), (tm 21)]))]) s9_15)
noncomputable abbrev s9_17 : CC := (CC.seq (CC.region [(wB 6 (doAlloc 54 [V.p0, V.l0]))]) s9_16)
noncomputable abbrev s9_18 : CC := (CC.seq s9_2 s9_17)
noncomputable abbrev b9 : CC := (CC.seq (CC.region [(wB 4 (doMove (O.c (V.s 0 0)))), (wB 5 (doMove (oN 0)))]) s9_18)
end Go.Proofs.Ythncpgkpkdolfaa

set_option maxRecDepth 100000
set_option maxHeartbeats 8000000
set_option linter.all false
namespace Go.Proofs.Ythncpgkpkdolfaa
open Go Go.Ev
section
variable {L : List Wri}
theorem isortW0_ok {h : H} {v c : V} : FnOk Try.prog 57 [v, .i .i64 0, .i .i64 0, c] h fun y h' => h' = h := by
  refine fn_go c57 (by intro hb; cases hb) (by simp) (by simp) fun Q hQ => ?_
  simp only [slotsF, Nat.reduceAdd]
  repeat' (first
    | refine St.h ?_
    | simp (disch := first | omega | (simp only [lnv]; omega)) only [wlk, ↓get_put', ↓reduceIte, seval]
    | (with_reducible (first | apply cd_split | apply gd_split)) <;> (intro hc; (try simp only [hcn] at hc); (try simp only [hc]); (try simp only [hcl] at hc); try omega))
  refine Ok.lp (fun m t g => m = 0 ∧ h = g ∧ get 2 t = .i .i64 0 ∧ get 8 t = .i .i64 1) 0 ?_ ?_
  · simp (disch := first | omega | (simp only [lnv]; omega)) only [wlk, ↓get_put', ↓reduceIte, seval]
    repeat' (first | trivial | rfl | refine And.intro ?_ ?_)
  rintro I hI m t g ⟨rfl, rfl, f2, f8⟩
  repeat' (first
    | refine St.h ?_
    | simp (disch := first | omega | (simp only [lnv]; omega)) only [wlk, ↓get_put', ↓reduceIte, seval, f2, f8]
    | (with_reducible (first | apply cd_split | apply gd_split)) <;> (intro hc; (try simp only [hcn] at hc); (try simp only [hc]); (try simp only [hcl] at hc); try omega))
  subst hQ
  rfl
theorem stable0_ok {h : H} {v c : V} : FnOk Try.prog 51 [v, .i .i64 0, c] h fun y h' => h' = h := by
  refine fn_go c51 (by intro hb; cases hb) (by simp) (by simp) fun Q hQ => ?_
  simp only [slotsF, Nat.reduceAdd]
  repeat' (first
    | refine St.h ?_
    | simp (disch := first | omega | (simp only [lnv]; omega)) only [wlk, ↓get_put', ↓reduceIte, seval]
    | (with_reducible (first | apply cd_split | apply gd_split)) <;> (intro hc; (try simp only [hcn] at hc); (try simp only [hc]); (try simp only [hcl] at hc); try omega))
  refine Ok.lp (fun m t g => m = 0 ∧ h = g ∧ get 0 t = v ∧ get 1 t = .i .i64 0 ∧ get 2 t = c ∧ get 6 t = .i .i64 20 ∧ get 7 t = .i .i64 0 ∧ get 8 t = .i .i64 20) 0 ?_ ?_
  · simp (disch := first | omega | (simp only [lnv]; omega)) only [wlk, ↓get_put', ↓reduceIte, seval]
    repeat' (first | trivial | rfl | refine And.intro ?_ ?_)
  rintro I hI m t g ⟨rfl, rfl, f0, f1, f2, f6, f7, f8⟩
  repeat' (first
    | refine St.h ?_
    | simp (disch := first | omega | (simp only [lnv]; omega)) only [wlk, ↓get_put', ↓reduceIte, seval, f0, f1, f2, f6, f7, f8]
    | (with_reducible (first | apply cd_split | apply gd_split)) <;> (intro hc; (try simp only [hcn] at hc); (try simp only [hc]); (try simp only [hcl] at hc); try omega))
  refine CL.mk isortW0_ok ?_
  rintro y g1 rfl
  repeat' (first
    | refine St.h ?_
    | simp (disch := first | omega | (simp only [lnv]; omega)) only [wlk, ↓get_put', ↓reduceIte, seval, f0, f1, f2, f6, f7, f8]
    | (with_reducible (first | apply cd_split | apply gd_split)) <;> (intro hc; (try simp only [hcn] at hc); (try simp only [hc]); (try simp only [hcl] at hc); try omega))
  refine Ok.lp (fun m t g => m = 0 ∧ g1 = g ∧ get 0 t = v ∧ get 1 t = .i .i64 0 ∧ get 6 t = .i .i64 20) 0 ?_ ?_
  · simp (disch := first | omega | (simp only [lnv]; omega)) only [wlk, ↓get_put', ↓reduceIte, seval, f0, f1, f6]
    repeat' (first | trivial | rfl | refine And.intro ?_ ?_)
  rintro I2 hI2 m t g ⟨rfl, rfl, f0, f1, f6⟩
  repeat' (first
    | refine St.h ?_
    | simp (disch := first | omega | (simp only [lnv]; omega)) only [wlk, ↓get_put', ↓reduceIte, seval, f0, f1, f6]
    | (with_reducible (first | apply cd_split | apply gd_split)) <;> (intro hc; (try simp only [hcn] at hc); (try simp only [hc]); (try simp only [hcl] at hc); try omega))
  subst hQ
  rfl
theorem stable_ok {h : H} {v : V} (rb : Rw h v L) (hn : L.length < 40) (hf : B.val h.floor ≤ B.val h.next) : FnOk Try.prog 51 [v, .i .i64 (L.length : Int), .f 40 []] h fun y h' =>
    ∃ q, (∀ x, (∃ k, k < L.length ∧ q k = x) ↔ x < L.length) ∧ Srt L q 0 L.length ∧ Rw h' v (rwK L q L.length) ∧ Stay (isOf v) h h' := by
  have rid : Rw h v (rwK L (fun i => i) L.length) := by rw [rwK_id]; exact rb
  have hmem : ∀ q, Per (fun i => i) q 0 L.length → ∀ x, (∃ k, k < L.length ∧ q k = x) ↔ x < L.length := fun q hp x => by
    constructor
    · rintro ⟨k, h1, h2⟩
      obtain ⟨j, j1, j2, j3⟩ := (hp.mem x).1 ⟨k, Nat.zero_le _, h1, h2⟩
      have j3 : j = x := j3
      omega
    · intro hx
      obtain ⟨k, k1, k2, k3⟩ := (hp.mem x).2 ⟨x, Nat.zero_le _, hx, rfl⟩
      exact ⟨k, k2, k3⟩
  refine fn_go c51 (by intro hb; cases hb) (by simp) (by simp) fun Q hQ => ?_
  simp only [slotsF, Nat.reduceAdd]
  repeat' (first
    | refine St.h ?_
    | simp (disch := first | omega | (simp only [lnv]; omega)) only [wlk, ↓get_put', ↓reduceIte, seval]
    | (with_reducible (first | apply cd_split | apply gd_split)) <;> (intro hc; (try simp only [hcn] at hc); (try simp only [hc]); (try simp only [hcl] at hc); try omega))
  -- behind the first loop: a is 0 or 20
  refine Ok.lp (fun m t g => ∃ (a : Nat) (q : Nat → Nat), ((m = 1 ∧ a = 0) ∨ (m = 0 ∧ a = 20 ∧ 20 ≤ L.length)) ∧ get 0 t = v ∧ get 1 t = .i .i64 (L.length : Int) ∧ get 2 t = .f 40 [] ∧ get 6 t = .i .i64 20 ∧ get 7 t = .i .i64 (a : Int) ∧ get 8 t = .i .i64 ((a + 20 : Nat) : Int) ∧ Per (fun i => i) q 0 a ∧ Srt L q 0 a ∧ Rw g v (rwK L q L.length) ∧ Stay (isOf v) h g) 1 ?_ ?_
  · simp (disch := first | omega | (simp only [lnv]; omega)) only [wlk, ↓get_put', ↓reduceIte, seval]
    refine ⟨0, fun i => i, .inl (by simp), ?_⟩
    refine ⟨?_, ?_, ?_, ?_, ?_, ?_, Per.refl, fun i j h1 h2 h3 => by omega, rid, ⟨rfl, Nat.le_refl _, fun _ _ _ => rfl⟩⟩
    all_goals first | trivial | rfl
  rintro I hI m t g ⟨a, q, hma, f0, f1, f2, f6, f7, f8, hp, hs, rb1, st⟩
  have hfg := st.fl hf
  by_cases hle : a + 20 ≤ L.length
  case pos =>
    obtain ⟨rfl, rfl⟩ : m = 1 ∧ a = 0 := by omega
    have d1 : (((0 + 20 : Nat) : Int) ≤ (L.length : Int)) = True := eq_true (by omega)
    repeat' (first
      | refine St.h ?_
      | simp (disch := first | omega | (simp only [lnv]; omega)) only [wlk, ↓get_put', ↓reduceIte, seval, f0, f1, f2, f6, f7, f8, d1]
      | (with_reducible (first | apply cd_split | apply gd_split)) <;> (intro hc; (try simp only [hcn] at hc); (try simp only [hc]); (try simp only [hcl] at hc); try omega))
    refine CL.mk (isortW_ok (L := L) (N := L.length) (p := q) (a := 0) (b := 20) rb1 (by omega) (by omega) (by omega) (fun k _ _ => hp.out k (.inr (Nat.zero_le _))) hfg) ?_
    rintro y g1 ⟨q1, P1, S1, R1, s1⟩
    repeat' (first
      | refine St.h ?_
      | simp (disch := first | omega | (simp only [lnv]; omega)) only [wlk, ↓get_put', ↓reduceIte, seval, f0, f1, f2, f6, f7, f8]
      | (with_reducible (first | apply cd_split | apply gd_split)) <;> (intro hc; (try simp only [hcn] at hc); (try simp only [hc]); (try simp only [hcl] at hc); try omega))
    refine lp_next hI 0 (by omega) ⟨20, q1, .inr ⟨rfl, rfl, by omega⟩, by simp (disch := first | omega | (simp only [lnv]; omega)) only [wlk, ↓get_put', ↓reduceIte, seval, f0], by simp (disch := first | omega | (simp only [lnv]; omega)) only [wlk, ↓get_put', ↓reduceIte, seval, f1], by simp (disch := first | omega | (simp only [lnv]; omega)) only [wlk, ↓get_put', ↓reduceIte, seval, f2], by simp (disch := first | omega | (simp only [lnv]; omega)) only [wlk, ↓get_put', ↓reduceIte, seval, f6], by simp (disch := first | omega | (simp only [lnv]; omega)) only [wlk, ↓get_put', ↓reduceIte, seval, f8], by simp (disch := first | omega | (simp only [lnv]; omega)) only [wlk, ↓get_put', ↓reduceIte, seval, f8], (hp.wide (Nat.le_refl _) (by omega)).trans P1, S1, R1, st.trans s1⟩
  have ha : a ≤ L.length ∧ L.length < a + 20 := by omega
  have d1 : (((a + 20 : Nat) : Int) ≤ (L.length : Int)) = False := eq_false (by omega)
  repeat' (first
    | refine St.h ?_
    | simp (disch := first | omega | (simp only [lnv]; omega)) only [wlk, ↓get_put', ↓reduceIte, seval, f0, f1, f2, f6, f7, f8, d1]
    | (with_reducible (first | apply cd_split | apply gd_split)) <;> (intro hc; (try simp only [hcn] at hc); (try simp only [hc]); (try simp only [hcl] at hc); try omega))
  refine CL.mk (isortW_ok (L := L) (N := L.length) (p := q) (a := a) (b := L.length) rb1 (by omega) ha.1 (Nat.le_refl _) (fun k hk _ => hp.out k (.inr hk)) hfg) ?_
  rintro y g1 ⟨q1, P1, S1, R1, s1⟩
  have hf1 := s1.fl hfg
  have st1 := st.trans s1
  have Pt : Per (fun i => i) q1 0 L.length := (hp.wide (Nat.le_refl _) ha.1).trans (P1.wide (Nat.zero_le _) (Nat.le_refl _))
  repeat' (first
    | refine St.h ?_
    | simp (disch := first | omega | (simp only [lnv]; omega)) only [wlk, ↓get_put', ↓reduceIte, seval, f0, f1, f2, f6, f7, f8]
    | (with_reducible (first | apply cd_split | apply gd_split)) <;> (intro hc; (try simp only [hcn] at hc); (try simp only [hc]); (try simp only [hcl] at hc); try omega))
  -- the second loop merges once, if at all
  refine Ok.lp (fun m t g => ∃ (s : Nat) (q : Nat → Nat), ((m = 1 ∧ s = 20 ∧ q = q1) ∨ (m = 0 ∧ s = 40 ∧ 20 < L.length ∧ Per q1 q 0 L.length ∧ Srt L q 0 L.length)) ∧ get 0 t = v ∧ get 1 t = .i .i64 (L.length : Int) ∧ get 2 t = .f 40 [] ∧ get 6 t = .i .i64 (s : Int) ∧ Rw g v (rwK L q L.length) ∧ Stay (isOf v) h g) 1 ?_ ?_
  · simp (disch := first | omega | (simp only [lnv]; omega)) only [wlk, ↓get_put', ↓reduceIte, seval, f0, f1, f2, f6]
    refine ⟨20, q1, .inl (by simp), ?_⟩
    refine ⟨?_, ?_, ?_, ?_, R1, st1⟩
    all_goals first | trivial | rfl
  rintro I2 hI2 m2 t2 g2 ⟨s, q2, hms, e0, e1, e2, e6, R2, st2⟩
  have hf2 := st2.fl hf
  by_cases hlt : s < L.length
  case neg =>
    have d1 : ((s : Int) < (L.length : Int)) = False := eq_false (by omega)
    repeat' (first
      | refine St.h ?_
      | simp (disch := first | omega | (simp only [lnv]; omega)) only [wlk, ↓get_put', ↓reduceIte, seval, e0, e1, e2, e6, d1]
      | (with_reducible (first | apply cd_split | apply gd_split)) <;> (intro hc; (try simp only [hcn] at hc); (try simp only [hc]); (try simp only [hcl] at hc); try omega))
    subst hQ
    rcases hms with ⟨_, rfl, rfl⟩ | ⟨_, _, _, P2, S2⟩
    · refine ⟨q2, hmem _ Pt, ?_, R2, st2⟩
      by_cases h0 : a = 0
      · subst h0; exact S1
      · obtain rfl : a = 20 := by omega
        intro i j h1 h2 h3
        have := srt_out hs fun k k1 k2 => P1.out k (.inl k2)
        exact this i j h1 h2 (by omega)
    · exact ⟨q2, hmem _ (Pt.trans P2), S2, R2, st2⟩
  obtain ⟨rfl, rfl, rfl⟩ : m2 = 1 ∧ s = 20 ∧ q2 = q1 := by
    rcases hms with h | h
    · exact h
    · omega
  obtain rfl : a = 20 := by omega
  have d1 : (((20 : Nat) : Int) < (L.length : Int)) = True := eq_true (by omega)
  repeat' (first
    | refine St.h ?_
    | simp (disch := first | omega | (simp only [lnv]; omega)) only [wlk, ↓get_put', ↓reduceIte, seval, e0, e1, e2, e6, d1]
    | (with_reducible (first | apply cd_split | apply gd_split)) <;> (intro hc; (try simp only [hcn] at hc); (try simp only [hc]); (try simp only [hcl] at hc); try omega))
  refine Ok.lp (fun m t g => m = 0 ∧ g2 = g ∧ get 0 t = v ∧ get 1 t = .i .i64 (L.length : Int) ∧ get 2 t = .f 40 [] ∧ get 6 t = .i .i64 20 ∧ get 7 t = .i .i64 0 ∧ get 8 t = .i .i64 40) 0 ?_ ?_
  · simp (disch := first | omega | (simp only [lnv]; omega)) only [wlk, ↓get_put', ↓reduceIte, seval, e0, e1, e2, e6]
    repeat' (first | trivial | rfl | refine And.intro ?_ ?_)
  rintro I3 hI3 m3 t3 g3 ⟨rfl, rfl, f0, f1, f2, f6, f7, f8⟩
  have d2 : ((40 : Int) ≤ (L.length : Int)) = False := eq_false (by omega)
  have d3 : ((20 : Int) < (L.length : Int)) = True := eq_true (by omega)
  repeat' (first
    | refine St.h ?_
    | simp (disch := first | omega | (simp only [lnv]; omega)) only [wlk, ↓get_put', ↓reduceIte, seval, f0, f1, f2, f6, f7, f8, d2, d3]
    | (with_reducible (first | apply cd_split | apply gd_split)) <;> (intro hc; (try simp only [hcn] at hc); (try simp only [hc]); (try simp only [hcl] at hc); try omega))
  have hsm := sm_all (L := L) (N := L.length) (by omega) (L.length + 1) (h := g2) (v := v) (p := q2) (a := 0) (m := 20) (b := L.length) (by omega) R2 (by omega) (by omega) (Nat.le_refl _) (srt_out hs fun k k1 k2 => P1.out k (.inl k2)) S1 (fun i j i1 i2 i3 i4 _ => by
    have h5 : q2 i < 20 := by
      obtain ⟨k, k1, k2, k3⟩ := (hp.mem (q i)).1 ⟨i, i1, i2, rfl⟩
      have k3 : k = q i := k3
      rw [P1.out i (.inl i2)]; omega
    have h6 : 20 ≤ q2 j := by
      obtain ⟨k, k1, k2, k3⟩ := (P1.mem (q2 j)).1 ⟨j, i3, i4, rfl⟩
      rw [hp.out k (.inr k1)] at k3
      have k3 : k = q2 j := k3
      omega
    omega) hf2
  refine CL.mk hsm ?_
  rintro y g4 ⟨q4, P4, S4, R4, s4⟩
  repeat' (first
    | refine St.h ?_
    | simp (disch := first | omega | (simp only [lnv]; omega)) only [wlk, ↓get_put', ↓reduceIte, seval, f0, f1, f2, f6, f7, f8]
    | (with_reducible (first | apply cd_split | apply gd_split)) <;> (intro hc; (try simp only [hcn] at hc); (try simp only [hc]); (try simp only [hcl] at hc); try omega))
  refine lp_next hI2 0 (by omega) ⟨40, q4, .inr ⟨rfl, rfl, by omega, P4, S4⟩, by simp (disch := first | omega | (simp only [lnv]; omega)) only [wlk, ↓get_put', ↓reduceIte, seval, f0], by simp (disch := first | omega | (simp only [lnv]; omega)) only [wlk, ↓get_put', ↓reduceIte, seval, f1], by simp (disch := first | omega | (simp only [lnv]; omega)) only [wlk, ↓get_put', ↓reduceIte, seval, f2], by simp (disch := first | omega | (simp only [lnv]; omega)) only [wlk, ↓get_put', ↓reduceIte, seval, f6], R4, st2.trans s4⟩
theorem sort12_ok {h h0 : H} {v : V} (hc : ClW h0 h v L) (hn : L.length < 40) (hf : B.val h.floor ≤ B.val h.next) (hn0 : B.val h0.next ≤ B.val h.next) : FnOk Try.prog 39 [v, .f 40 []] h fun y h' =>
    ∃ M, kpK M M.length = neatB L ∧ M.length = L.length ∧ Ws h' v M ∧ Stay (fun q => B.val h0.next ≤ B.val q) h h' := by
  refine fn_go c39 (by intro hb; cases hb) (by simp) (by simp) fun Q hQ => ?_
  simp only [slotsF, Nat.reduceAdd]
  rcases hc with ⟨rfl, hw, hsw⟩ | ⟨hne, rb, hsw, own⟩
  · repeat' (first
      | refine St.h ?_
      | simp (disch := first | omega | (simp only [lnv]; omega)) only [wlk, ↓get_put', ↓reduceIte, seval, hw.ln]
      | (with_reducible (first | apply cd_split | apply gd_split)) <;> (intro hc; (try simp only [hcn] at hc); (try simp only [hc]); (try simp only [hcl] at hc); try omega))
    refine CL.mk stable0_ok ?_
    rintro y g1 rfl
    repeat' (first
      | refine St.h ?_
      | simp (disch := first | omega | (simp only [lnv]; omega)) only [wlk, ↓get_put', ↓reduceIte, seval]
      | (with_reducible (first | apply cd_split | apply gd_split)) <;> (intro hc; (try simp only [hcn] at hc); (try simp only [hc]); (try simp only [hcl] at hc); try omega))
    subst hQ
    exact ⟨[], rfl, rfl, hw, ⟨rfl, Nat.le_refl _, fun _ _ _ => rfl⟩⟩
  · have hw := rb.ws
    repeat' (first
      | refine St.h ?_
      | simp (disch := first | omega | (simp only [lnv]; omega)) only [wlk, ↓get_put', ↓reduceIte, seval, hw.ln]
      | (with_reducible (first | apply cd_split | apply gd_split)) <;> (intro hc; (try simp only [hcn] at hc); (try simp only [hc]); (try simp only [hcl] at hc); try omega))
    refine CL.mk (stable_ok rb hn hf) ?_
    rintro y g1 ⟨q, q1, q2, q3, q4⟩
    repeat' (first
      | refine St.h ?_
      | simp (disch := first | omega | (simp only [lnv]; omega)) only [wlk, ↓get_put', ↓reduceIte, seval]
      | (with_reducible (first | apply cd_split | apply gd_split)) <;> (intro hc; (try simp only [hcn] at hc); (try simp only [hc]); (try simp only [hcl] at hc); try omega))
    subst hQ
    refine ⟨_, ?_, rwK_len, q3.ws, q4.mono fun id _ hi => own id hi⟩
    rw [rwK_len]; exact kpK_neat q1 q2
theorem bneat_ok {h : H} {v : V} {L : List Wri} (hL : Ws h v L) (hw : SwN 3 v) (hl : L.length < 40) (hk : ∀ w ∈ L, w.key.length ≤ 100000) (hf : B.val h.floor ≤ B.val h.next) : FnOk Try.prog 18 [v] h fun y h' => Ws h' y (neatB L) ∧ SwN 3 y ∧ Stay nowhere h h' := by
  refine fn_go c18 (by intro hb; cases hb) (by simp) (by simp) fun Q hQ => ?_
  simp only [slotsF, Nat.reduceAdd]
  repeat' (first
    | refine St.h ?_
    | simp (disch := first | omega | (simp only [lnv]; omega)) only [wlk, ↓get_put', ↓reduceIte, seval]
    | (with_reducible (first | apply cd_split | apply gd_split)) <;> (intro hc; (try simp only [hcn] at hc); (try simp only [hc]); (try simp only [hcl] at hc); try omega))
  refine CL.mk (cloneW_ok hL (by omega) hf) ?_
  rintro v2 h1 ⟨hc, s1⟩
  have hf1 := s1.fl hf
  repeat' (first
    | refine St.h ?_
    | simp (disch := first | omega | (simp only [lnv]; omega)) only [wlk, ↓get_put', ↓reduceIte, seval]
    | (with_reducible (first | apply cd_split | apply gd_split)) <;> (intro hc; (try simp only [hcn] at hc); (try simp only [hc]); (try simp only [hcl] at hc); try omega))
  refine CL.mk (sort12_ok hc hl hf1 s1.next) ?_
  rintro y h2 ⟨M, hM, hMl, wM, s2⟩
  have st2 : Stay nowhere h h2 := s1.past' s2 fun id hi => hi
  have hf2 := st2.fl hf
  repeat' (first
    | refine St.h ?_
    | simp (disch := first | omega | (simp only [lnv]; omega)) only [wlk, ↓get_put', ↓reduceIte, seval, wM.ln]
    | (with_reducible (first | apply cd_split | apply gd_split)) <;> (intro hc; (try simp only [hcn] at hc); (try simp only [hc]); (try simp only [hcl] at hc); try omega))
  refine Ok.lp (fun m t g => ∃ (i : Nat) (u : V), m = M.length - i ∧ i ≤ M.length ∧ get 3 t = v2 ∧ get 4 t = u ∧ get 11 t = v2 ∧ get 12 t = .i .i64 (M.length : Int) ∧ get 13 t = .i .i64 (i : Int) ∧ Buf g 49 3 u ((kpK M i).flatMap wriC) ∧ (∀ q, isOf u q → B.val h2.next ≤ B.val q) ∧ Stay nowhere h2 g) M.length ?_ ?_
  · simp (disch := first | omega | (simp only [lnv]; omega)) only [wlk, ↓get_put', ↓reduceIte, seval]
    refine ⟨0, .l0, by omega, by omega, ?_⟩
    refine ⟨?_, ?_, ?_, ?_, ?_, .inl ⟨rfl, rfl⟩, ?_, Stay.refl _ _⟩
    rotate_right
    · rintro i ⟨_, _, _, _, _, e⟩; cases e
    all_goals first | trivial | rfl
  rintro I hI m t g ⟨i, u, rfl, hi, f3, f4, f11, f12, f13, bu, own, st⟩
  have hfg := st.fl hf2
  have Mg := wM.grow st
  by_cases hil : i < M.length
  case neg =>
    obtain rfl : i = M.length := by omega
    have d1 : ((M.length : Int) < (M.length : Int)) = False := eq_false (by omega)
    repeat' (first
      | refine St.h ?_
      | simp (disch := first | omega | (simp only [lnv]; omega)) only [wlk, ↓get_put', ↓reduceIte, seval, f3, f4, f11, f12, f13, d1]
      | (with_reducible (first | apply cd_split | apply gd_split)) <;> (intro hc; (try simp only [hcn] at hc); (try simp only [hc]); (try simp only [hcl] at hc); try omega))
    subst hQ
    rw [hM] at bu
    exact ⟨Ss.buf bu rfl wriC_len (by omega), swn_buf12 bu, st2.trans st⟩
  have d1 : ((i : Int) < (M.length : Int)) = True := eq_true (by omega)
  repeat' (first
    | refine St.h ?_
    | simp (disch := first | omega | (simp only [lnv]; omega)) only [wlk, ↓get_put', ↓reduceIte, seval, f3, f4, f11, f12, f13, d1, Mg.ix, Mg.la, Int.toNat_natCast]
    | (with_reducible (first | apply cd_split | apply gd_split)) <;> (intro hc; (try simp only [hcn] at hc); (try simp only [hc]); (try simp only [hcl] at hc); try omega))
  refine AL.own (by simp) hfg fun g1 t1 _ o1 => ?_
  have hf1 := t1.fl hfg
  repeat' (first
    | refine St.h ?_
    | simp (disch := first | omega | (simp only [lnv]; omega)) only [wlk, ↓get_put', ↓reduceIte, seval, f3, f4, f11, f12, f13]
    | (with_reducible (first | apply cd_split | apply gd_split)) <;> (intro hc; (try simp only [hcn] at hc); (try simp only [hc]); (try simp only [hcl] at hc); try omega))
  refine ST.all o1 rfl rfl (by simp) (by simp) fun g2 o2 t2 => ?_
  have hf2' := t2.fl hf1
  have tt : Stay nowhere g g2 := t1.past' t2 fun q hq => by rw [hq]; exact Nat.le_refl _
  have M2 := Mg.grow tt
  have b2 := bu.grow tt
  have r2 := o2.row
  have hkl := kpK_len M i
  have e1 : ((i : Int) + 1).toNat = i + 1 := by omega
  have go : lasK M i → ∀ t3 : F, get 3 t3 = v2 → get 11 t3 = v2 → get 12 t3 = .i .i64 (M.length : Int) → get 13 t3 = .i .i64 ((i + 1 : Nat) : Int) → ∀ u3 g3, get 4 t3 = u3 → Buf g3 49 3 u3 ((kpK M i ++ [M.getD i default]).flatMap wriC) → (∀ q, isOf u3 q → B.val h2.next ≤ B.val q) → Stay nowhere h2 g3 → LpG I (M.length - i) t3 g3 := fun hk t3 x3 x11 x12 x13 u3 g3 x4 xb xo xs =>
    lp_next hI (M.length - (i + 1)) (by omega) ⟨i + 1, u3, rfl, by omega, x3, x4, x11, x12, x13, by unfold kpK; rw [if_pos hk]; exact xb, xo, xs⟩
  by_cases c1 : i + 1 = M.length
  · have d2 : ((i : Int) + 1 = (M.length : Int)) = True := eq_true (by omega)
    repeat' (first
      | refine St.h ?_
      | simp (disch := first | omega | (simp only [lnv]; omega)) only [wlk, ↓get_put', ↓reduceIte, seval, f3, f4, f11, f12, f13, d2, M2.ln, r2.l1, r2.ln]
      | (with_reducible (first | apply cd_split | apply gd_split)) <;> (intro hc; (try simp only [hcn] at hc); (try simp only [hc]); (try simp only [hcl] at hc); try omega))
    refine AL.own (by simp) hf2' fun g3 t3 _ o3 => ?_
    repeat' (first
      | refine St.h ?_
      | simp (disch := first | omega | (simp only [lnv]; omega)) only [wlk, ↓get_put', ↓reduceIte, seval, f3, f4, f11, f12, f13]
      | (with_reducible (first | apply cd_split | apply gd_split)) <;> (intro hc; (try simp only [hcn] at hc); (try simp only [hc]); (try simp only [hcl] at hc); try omega))
    refine push_w (x := M.getD i default) (b2.grow t3) o3 (by omega) (t3.fl hf2') fun u4 g4 b4 t4 own4 => ?_
    repeat' (first
      | refine St.h ?_
      | simp (disch := first | omega | (simp only [lnv]; omega)) only [wlk, ↓get_put', ↓reduceIte, seval, f3, f4, f11, f12, f13]
      | (with_reducible (first | apply cd_split | apply gd_split)) <;> (intro hc; (try simp only [hcn] at hc); (try simp only [hc]); (try simp only [hcl] at hc); try omega))
    refine go (.inl c1) _ (by simp (disch := first | omega | (simp only [lnv]; omega)) only [wlk, ↓get_put', ↓reduceIte, seval, f3]) (by simp (disch := first | omega | (simp only [lnv]; omega)) only [wlk, ↓get_put', ↓reduceIte, seval, f11]) (by simp (disch := first | omega | (simp only [lnv]; omega)) only [wlk, ↓get_put', ↓reduceIte, seval, f12]) (by simp (disch := first | omega | (simp only [lnv]; omega)) only [wlk, ↓get_put', ↓reduceIte, seval, f13]; rfl) u4 _ (by simp (disch := first | omega | (simp only [lnv]; omega)) only [wlk, ↓get_put', ↓reduceIte, seval]) b4 (fun q hq => ?_) ((st.trans (tt.trans t3)).past' t4 fun q hq => own q hq)
    rcases own4 q hq with h5 | h5
    · exact own q h5
    · exact Nat.le_trans (st.trans (tt.trans t3)).next h5
  have d2 : ((i : Int) + 1 = (M.length : Int)) = False := eq_false (by omega)
  by_cases c2 : (M.getD (i + 1) default).key = (M.getD i default).key
  · repeat' (first
      | refine St.h ?_
      | simp (disch := first | omega | (simp only [lnv]; omega)) only [wlk, ↓get_put', ↓reduceIte, seval, f3, f4, f11, f12, f13, d2, M2.ln, M2.ix, M2.l0, r2.l1, r2.ln, e1, c2]
      | (with_reducible (first | apply cd_split | apply gd_split)) <;> (intro hc; (try simp only [hcn] at hc); (try simp only [hc]); (try simp only [hcl] at hc); try omega))
    have hk : ¬ lasK M i := fun h5 => by
      rcases h5 with h5 | h5
      · exact c1 h5
      · exact h5 c2
    exact lp_next hI (M.length - (i + 1)) (by omega) ⟨i + 1, u, rfl, by omega, by simp (disch := first | omega | (simp only [lnv]; omega)) only [wlk, ↓get_put', ↓reduceIte, seval, f3], by simp (disch := first | omega | (simp only [lnv]; omega)) only [wlk, ↓get_put', ↓reduceIte, seval, f4], by simp (disch := first | omega | (simp only [lnv]; omega)) only [wlk, ↓get_put', ↓reduceIte, seval, f11], by simp (disch := first | omega | (simp only [lnv]; omega)) only [wlk, ↓get_put', ↓reduceIte, seval, f12], by simp (disch := first | omega | (simp only [lnv]; omega)) only [wlk, ↓get_put', ↓reduceIte, seval, f13]; rfl, by unfold kpK; rw [if_neg hk]; exact b2, own, st.trans tt⟩
  · have d3 : ((M.getD (i + 1) default).key = (M.getD i default).key) = False := eq_false c2
    repeat' (first
      | refine St.h ?_
      | simp (disch := first | omega | (simp only [lnv]; omega)) only [wlk, ↓get_put', ↓reduceIte, seval, f3, f4, f11, f12, f13, d2, M2.ln, M2.ix, M2.l0, r2.l1, r2.ln, e1, d3]
      | (with_reducible (first | apply cd_split | apply gd_split)) <;> (intro hc; (try simp only [hcn] at hc); (try simp only [hc]); (try simp only [hcl] at hc); try omega))
    refine AL.own (by simp) hf2' fun g3 t3 _ o3 => ?_
    repeat' (first
      | refine St.h ?_
      | simp (disch := first | omega | (simp only [lnv]; omega)) only [wlk, ↓get_put', ↓reduceIte, seval, f3, f4, f11, f12, f13]
      | (with_reducible (first | apply cd_split | apply gd_split)) <;> (intro hc; (try simp only [hcn] at hc); (try simp only [hc]); (try simp only [hcl] at hc); try omega))
    refine push_w (x := M.getD i default) (b2.grow t3) o3 (by omega) (t3.fl hf2') fun u4 g4 b4 t4 own4 => ?_
    repeat' (first
      | refine St.h ?_
      | simp (disch := first | omega | (simp only [lnv]; omega)) only [wlk, ↓get_put', ↓reduceIte, seval, f3, f4, f11, f12, f13]
      | (with_reducible (first | apply cd_split | apply gd_split)) <;> (intro hc; (try simp only [hcn] at hc); (try simp only [hc]); (try simp only [hcl] at hc); try omega))
    refine go (.inr c2) _ (by simp (disch := first | omega | (simp only [lnv]; omega)) only [wlk, ↓get_put', ↓reduceIte, seval, f3]) (by simp (disch := first | omega | (simp only [lnv]; omega)) only [wlk, ↓get_put', ↓reduceIte, seval, f11]) (by simp (disch := first | omega | (simp only [lnv]; omega)) only [wlk, ↓get_put', ↓reduceIte, seval, f12]) (by simp (disch := first | omega | (simp only [lnv]; omega)) only [wlk, ↓get_put', ↓reduceIte, seval, f13]; rfl) u4 _ (by simp (disch := first | omega | (simp only [lnv]; omega)) only [wlk, ↓get_put', ↓reduceIte, seval]) b4 (fun q hq => ?_) ((st.trans (tt.trans t3)).past' t4 fun q hq => own q hq)
    rcases own4 q hq with h5 | h5
    · exact own q h5
    · exact Nat.le_trans (st.trans (tt.trans t3)).next h5
end
end Go.Proofs.Ythncpgkpkdolfaa

set_option linter.all false
namespace Go.Ev
open Go
theorem CPS.own {P : Program} {h : H} {N : Nx} {id : B} {el fin : Nat} {xs : List V} {s : List UInt8} {cap : Option Nat} (o : OwnE h id el xs) (hne : 1 ≤ s.length) (hj : s.length ≤ fin) (hfit : s.length < 2 ^ 37)
    (k : ∀ h', OwnE h' id el (s.map bv) → Stay (fun i => i = id) h h' → N.go P (.i .i64 (s.length : Int)) h') : CPS P (.l id 0 0 s.length fin cap) (sv s) h N := by
  obtain ⟨blk, a1, a2, a3, a4, aE, a5, a6, a7⟩ := o
  obtain ⟨next, floor, heap⟩ := h
  obtain ⟨cur, min, sz, cs, bel, fr⟩ := blk
  simp only at a2 a3 a4 aE a7
  subst a2; subst a3; subst a4; subst aE
  have hvl : (s.map bv).length = s.length := List.length_map _
  obtain ⟨tr, t1, t2, t3⟩ := setList_fine (s.map bv) 0 cs (by omega)
  obtain ⟨hp, s1, s2, s3⟩ := setK_ok id (⟨0, 0, sz, tr, bel, 0⟩ : Blk) heap
  have e1 : B.geB floor id = true := by cases floor <;> first | rfl | (show Nat.ble _ _ = true; rw [Nat.ble_eq]; exact a5)
  have e2 : Nat.ble (Nat.add 0 (s.map bv).length) fin = true := by rw [Nat.ble_eq]; show 0 + (s.map bv).length ≤ fin; omega
  have e4 : frOk 0 0 = true := rfl
  have e5 : Nat.beq 0 0 = true := rfl
  have e6 : Nat.ble 0 0 = true := rfl
  have a1' : heap.get id = some ⟨0, 0, sz, cs, bel, 0⟩ := a1
  refine hm_of (v := .i .i64 (s.length : Int)) (h' := ⟨next, floor, hp⟩) (fun q => ?_) (k _ ⟨_, s2, rfl, rfl, rfl, rfl, a5, a6, fun i z hz => by have := t2 i z hz; rwa [Nat.zero_add] at this⟩ ⟨rfl, Nat.le_refl _, fun i _ hi => s3 i hi⟩)
  show natC s.length (fun _ => false) (fun _ => copyToS (sv s) ⟨next, floor, heap⟩ q id 0 0 s.length fin) = _
  obtain ⟨m, hm⟩ : ∃ m, s.length = m + 1 := ⟨s.length - 1, by omega⟩
  have hc : ∀ (z : Unit → Bool) (f : Nat → Bool), natC s.length z f = f (m + 1) := fun z f => by rw [hm]; rfl
  rw [hc]
  unfold copyToS
  show unpK s.length (pk s) [] (fun vs => ifK (Nat.beq s.length s.length) fun _ => store ⟨next, floor, heap⟩ id 0 0 fin vs fun h => q (.i .i64 (.ofNat s.length)) h) = _
  rw [unpK_map _ _ _ _ rfl, List.append_nil, Nat.beq_refl, ifK_true]
  simp only [store, hK_mk, a1', optK_some, blkK_mk, e5, e6, e1, e2, allOne_bv, e4, ifK_true]
  rw [t1, s1]; rfl
theorem US.own {P : Program} {h : H} {N : Nx} {id : B} {el fin : Nat} {a : List UInt8} (o : OwnE h id el (a.map bv)) (hne : 1 ≤ a.length) (hj : a.length ≤ fin) (hl : a.length ≤ 1048576)
    (k : ∀ h', Stay (fun i => i = id) h h' → N.go P (sv a) h') : US P el (.p id 0 0 fin) (.i .i64 (a.length : Int)) h N := by
  have hrow : Row h id 0 0 (a.map bv) := o.own.row
  obtain ⟨blk, a1, a2, a3, a4, aE, a5, a6, a7⟩ := o
  have hld : ∀ k, loadN h id 0 0 fin a.length k = k (a.map bv) := fun k => by
    have := loadN_row (n := (a.map bv).length) (fin := fin) hrow rfl (by intro h0; have := congrArg List.length h0; simp at this; subst this; simp at hne) (by rw [List.length_map]; omega) k
    rwa [List.length_map] at this
  obtain ⟨next, floor, heap⟩ := h
  obtain ⟨cur, min, sz, cells, bel, fr⟩ := blk
  simp only at a2 a3 a4 aE a7
  subst a2; subst a3; subst a4; subst aE
  obtain ⟨hp, s1, s2, s3⟩ := setK_ok id (⟨0, 0, sz, cells, bel, a.length + 2⟩ : Blk) heap
  have a1' : heap.get id = some ⟨0, 0, sz, cells, bel, 0⟩ := a1
  have g2 : Nat.beq bel bel = true := Nat.beq_refl bel
  have g3 : B.geB floor id = true := by cases floor <;> first | rfl | (show Nat.ble _ _ = true; rw [Nat.ble_eq]; exact a5)
  have g4 : Nat.ble 1 a.length = true := by rw [Nat.ble_eq]; exact hne
  have g5 : Nat.ble a.length 1048576 = true := by rw [Nat.ble_eq]; exact hl
  have g6 : Nat.beq 0 0 = true := rfl
  have g7 : Nat.ble 0 0 = true := rfl
  refine US.of (v := sv a) (h' := ⟨next, floor, hp⟩) (fun q => ?_) (k _ ⟨rfl, Nat.le_refl _, fun i _ hi => s3 i hi⟩)
  simp only [vI_i, kdEq_self, ifK_true, natK_cast, vPZ_p]
  unfold uStrK
  rw [g6, ifK_true, g4, ifK_true, g5, ifK_true]
  simp only [elK, hK_mk, a1', optK_some, blkK_mk, g7, g2, ifK_true]
  rw [hld, pack_bv]
  have e0 : 0 * 256 ^ a.length + pk a = pk a := by rw [Nat.zero_mul, Nat.zero_add]
  rw [e0]
  simp only [freezeK, hK_mk, a1', optK_some, blkK_mk, g3, ifK_true]
  show fN (Nat.add a.length 2) (fun fr' => T.setK id ⟨0, 0, sz, cells, bel, fr'⟩ heap fun heap => q (.s a.length (pk a)) ⟨next, floor, heap⟩) = _
  rw [fN_eq]
  exact s1 _
end Go.Ev

set_option maxRecDepth 1000000
namespace Go.Proofs.Ythncpgkpkdolfaa.ravelinlaw12
open Go.Ev
theorem known_run : runFn noTb Try.prog 1000 7 [] = true := by kernel_rfl
theorem known_pure : PureTrue Try.prog 7 := pure_of (noTb_ok _) (Checked.mixed Try.checked) known_run
end Go.Proofs.Ythncpgkpkdolfaa.ravelinlaw12

set_option maxRecDepth 100000
set_option maxHeartbeats 8000000
set_option linter.all false
namespace Go.Proofs.Ythncpgkpkdolfaa
open Go Go.Ev
theorem known12 {h : H} : FnOk Try.prog 7 [] h fun y h' => y = .b true ∧ h' = h := FnOk.of_pure ravelinlaw12.known_pure h
theorem bis_ok {h : H} {v : V} {L : List Wri} (hL : Ws h v L) (hl : L.length ≤ 10000) (hf : B.val h.floor ≤ B.val h.next) : FnOk Try.prog 15 [v] h fun y h' => y = .b (isB L) ∧ Stay nowhere h h' := by
  refine fn_go c15 (by intro hb; cases hb) (by simp) (by simp) fun Q hQ => ?_
  simp only [slotsF, Nat.reduceAdd]
  by_cases h8 : 8 < L.length
  · have d1 : ((8 : Int) < (L.length : Int)) = True := eq_true (by omega)
    repeat' (first
      | refine St.h ?_
      | simp (disch := first | omega | (simp only [lnv]; omega)) only [wlk, ↓get_put', ↓reduceIte, seval, hL.ln, d1]
      | (with_reducible (first | apply cd_split | apply gd_split)) <;> (intro hc; (try simp only [hcn] at hc); (try simp only [hc]); (try simp only [hcl] at hc); try omega))
    subst hQ
    exact ⟨by unfold isB; rw [decide_eq_false (by omega), Bool.and_false], Stay.refl _ _⟩
  have d1 : ((8 : Int) < (L.length : Int)) = False := eq_false (by omega)
  repeat' (first
    | refine St.h ?_
    | simp (disch := first | omega | (simp only [lnv]; omega)) only [wlk, ↓get_put', ↓reduceIte, seval, hL.ln, d1]
    | (with_reducible (first | apply cd_split | apply gd_split)) <;> (intro hc; (try simp only [hcn] at hc); (try simp only [hc]); (try simp only [hcl] at hc); try omega))
  refine Ok.lp (fun m t g => ∃ j : Nat, m = L.length - j ∧ j ≤ L.length ∧ Stay nowhere h g ∧ upU L j = true ∧ get 0 t = v ∧ get 8 t = v ∧ get 9 t = .i .i64 (L.length : Int) ∧ get 10 t = .i .i64 (j : Int)) L.length ?_ ?_
  · simp (disch := first | omega | (simp only [lnv]; omega)) only [wlk, ↓get_put', ↓reduceIte, seval]
    refine ⟨0, by omega, by omega, Stay.refl _ _, rfl, ?_⟩
    repeat' (first | trivial | rfl | refine And.intro ?_ ?_)
  rintro I hI m t g ⟨j, rfl, hj, st, hs, f0, f8, f9, f10⟩
  have hLg := hL.grow st
  have hfg := st.fl hf
  by_cases hjl : j < L.length
  case neg =>
    obtain rfl : j = L.length := by omega
    have d2 : ((L.length : Int) < (L.length : Int)) = False := eq_false (by omega)
    repeat' (first
      | refine St.h ?_
      | simp (disch := first | omega | (simp only [lnv]; omega)) only [wlk, ↓get_put', ↓reduceIte, seval, f0, f8, f9, f10, d2]
      | (with_reducible (first | apply cd_split | apply gd_split)) <;> (intro hc; (try simp only [hcn] at hc); (try simp only [hc]); (try simp only [hcl] at hc); try omega))
    subst hQ
    exact ⟨by unfold isB; rw [hs, decide_eq_true (by omega)]; rfl, st⟩
  have d2 : ((j : Int) < (L.length : Int)) = True := eq_true (by omega)
  repeat' (first
    | refine St.h ?_
    | simp (disch := first | omega | (simp only [lnv]; omega)) only [wlk, ↓get_put', ↓reduceIte, seval, f0, f8, f9, f10, d2, hLg.ix, hLg.la, Int.toNat_natCast]
    | (with_reducible (first | apply cd_split | apply gd_split)) <;> (intro hc; (try simp only [hcn] at hc); (try simp only [hc]); (try simp only [hcl] at hc); try omega))
  refine AL.own (by simp) hfg fun g1 t1 _ o1 => ?_
  have hf1 := t1.fl hfg
  repeat' (first
    | refine St.h ?_
    | simp (disch := first | omega | (simp only [lnv]; omega)) only [wlk, ↓get_put', ↓reduceIte, seval, f0, f8, f9, f10]
    | (with_reducible (first | apply cd_split | apply gd_split)) <;> (intro hc; (try simp only [hcn] at hc); (try simp only [hc]); (try simp only [hcl] at hc); try omega))
  refine ST.all o1 rfl rfl (by simp) (by simp) fun g2 o2 t2 => ?_
  have hf2 := t2.fl hf1
  have tt : Stay nowhere g g2 := t1.past' t2 fun q hq => by rw [hq]; exact Nat.le_refl _
  have r2 := o2.row
  repeat' (first
    | refine St.h ?_
    | simp (disch := first | omega | (simp only [lnv]; omega)) only [wlk, ↓get_put', ↓reduceIte, seval, f0, f8, f9, f10, r2.ln]
    | (with_reducible (first | apply cd_split | apply gd_split)) <;> (intro hc; (try simp only [hcn] at hc); (try simp only [hc]); (try simp only [hcl] at hc); try omega))
  refine CL.stay (isWrite_ok hf2) fun g3 t3 => ?_
  have t4 := tt.trans t3
  have L3 := hLg.grow t4
  have o3 := o2.stay t3 fun h => h
  have r3 := o3.row
  have st3 := st.trans t4
  cases hw : isW (L.getD j default).key (L.getD j default).del (L.getD j default).val with
  | false =>
    have hn : isB L = false := upU_no hjl (by unfold upA isR; rw [hw]; rfl)
    repeat' (first
      | refine St.h ?_
      | simp (disch := first | omega | (simp only [lnv]; omega)) only [wlk, ↓get_put', ↓reduceIte, seval, f0, f8, f9, f10]
      | (with_reducible (first | apply cd_split | apply gd_split)) <;> (intro hc; (try simp only [hcn] at hc); (try simp only [hc]); (try simp only [hcl] at hc); try omega))
    subst hQ
    exact ⟨by rw [hn], st3⟩
  | true =>
  by_cases h0 : j = 0
  · have hu : upA L j = true := by unfold upA isR; rw [hw, decide_eq_true h0]; rfl
    have hz : ((0 : Int) < (j : Int)) = False := eq_false (by omega)
    repeat' (first
      | refine St.h ?_
      | simp (disch := first | omega | (simp only [lnv]; omega)) only [wlk, ↓get_put', ↓reduceIte, seval, f0, f8, f9, f10, hz]
      | (with_reducible (first | apply cd_split | apply gd_split)) <;> (intro hc; (try simp only [hcn] at hc); (try simp only [hc]); (try simp only [hcl] at hc); try omega))
    refine lp_next hI (L.length - (j + 1)) (by omega) ⟨j + 1, rfl, by omega, st3, by rw [upU_succ, hs, hu]; rfl, by simp (disch := first | omega | (simp only [lnv]; omega)) only [wlk, ↓get_put', ↓reduceIte, seval, f0], by simp (disch := first | omega | (simp only [lnv]; omega)) only [wlk, ↓get_put', ↓reduceIte, seval, f8], by simp (disch := first | omega | (simp only [lnv]; omega)) only [wlk, ↓get_put', ↓reduceIte, seval, f9], by simp (disch := first | omega | (simp only [lnv]; omega)) only [wlk, ↓get_put', ↓reduceIte, seval, f10]; rfl⟩
  · have ek : ((j : Int) - 1).toNat = j - 1 := by omega
    have hz : ((0 : Int) < (j : Int)) = True := eq_true (by omega)
    have hu : upA L j = Op.bytesLess (L.getD (j - 1) default).key (L.getD j default).key := by unfold upA isR; rw [hw, decide_eq_false h0]; rfl
    cases hk : Op.bytesLess (L.getD (j - 1) default).key (L.getD j default).key with
    | false =>
      have hn : isB L = false := upU_no hjl (by rw [hu, hk])
      repeat' (first
        | refine St.h ?_
        | simp (disch := first | omega | (simp only [lnv]; omega)) only [wlk, ↓get_put', ↓reduceIte, seval, f0, f8, f9, f10, hz, ek, L3.ix, L3.l0, r3.l1, hk]
        | (with_reducible (first | apply cd_split | apply gd_split)) <;> (intro hc; (try simp only [hcn] at hc); (try simp only [hc]); (try simp only [hcl] at hc); try omega))
      subst hQ
      exact ⟨by rw [hn], st3⟩
    | true =>
      repeat' (first
        | refine St.h ?_
        | simp (disch := first | omega | (simp only [lnv]; omega)) only [wlk, ↓get_put', ↓reduceIte, seval, f0, f8, f9, f10, hz, ek, L3.ix, L3.l0, r3.l1, hk]
        | (with_reducible (first | apply cd_split | apply gd_split)) <;> (intro hc; (try simp only [hcn] at hc); (try simp only [hc]); (try simp only [hcl] at hc); try omega))
      refine lp_next hI (L.length - (j + 1)) (by omega) ⟨j + 1, rfl, by omega, st3, by rw [upU_succ, hs, hu, hk]; rfl, by simp (disch := first | omega | (simp only [lnv]; omega)) only [wlk, ↓get_put', ↓reduceIte, seval, f0], by simp (disch := first | omega | (simp only [lnv]; omega)) only [wlk, ↓get_put', ↓reduceIte, seval, f8], by simp (disch := first | omega | (simp only [lnv]; omega)) only [wlk, ↓get_put', ↓reduceIte, seval, f9], by simp (disch := first | omega | (simp only [lnv]; omega)) only [wlk, ↓get_put', ↓reduceIte, seval, f10]; rfl⟩
end Go.Proofs.Ythncpgkpkdolfaa

set_option maxRecDepth 1000000
set_option linter.all false
namespace Go.Proofs.Ythncpgkpkdolfaa
open Go Go.Ev
noncomputable abbrev s7_0 : CC := (CC.seq (CC.draws [(uB 51 (doMove (tm 3))), (uB 52 (bin2 fEql (tm 51) (oN 0))), (uB 53 (doMove (tm 52))), (uG 53 true 54 (doMove (tm 7))), (uG 53 true 55 (bin2 fEql (tm 54) (oN 0))), (uB 56 (doPick (tm 53) (tm 55) (O.c (V.b Bool.false)))), (uB 57 (doMove (tm 56))), (uG 57 true 58 (doMove (tm 4))), (uG 57 true 59 (bin2 fEql (tm 58) (oN 3))), (uB 60 (doPick (tm 57) (tm 59) (O.c (V.b Bool.false)))), (uB 61 (doMove (tm 60))), (uG 61 true 62 (doMove (tm 6))), (uG 61 true 63 (doMove (tm 2))), (uG 61 true 64 (doLenS (tm 63))), (uG 61 true 65 (bin2 fEql (tm 62) (tm 64))), (uB 66 (doPick (tm 61) (tm 65) (O.c (V.b Bool.false)))), (uB 67 (doMove (tm 66))), (uG 67 true 68 (doMove (tm 5))), (uG 67 true 69 (doMove (tm 1))), (wG 67 true 70 (doCall 17 [(tm 68), (tm 69)])), (uB 71 (doPick (tm 67) (tm 70) (O.c (V.b Bool.false)))), (uB 72 (doMove (tm 71))), (uG 72 true 73 (doMove (tm 9))), (uG 72 true 74 (bin2 fEql (tm 73) (oN 10))), (uB 75 (doPick (tm 72) (tm 74) (O.c (V.b Bool.false)))), (uB 76 (doMove (tm 75))), (uG 76 true 77 (doMove (tm 1))), (wG 76 true 78 (doCall 15 [(tm 77)])), (uB 79 (doPick (tm 76) (tm 78) (O.c (V.b Bool.false)))), (uB 80 (doMove (tm 79))), (wG 80 true 81 (doCall 15 [(O.c V.l0)])), (uB 82 (doPick (tm 80) (tm 81) (O.c (V.b Bool.false)))), (uB 83 (doMove (tm 82))), (uG 83 true 84 (doMove (tm 1))), (uG 83 true 85 (doIndexAddr 3 (tm 84) (oN 1))), (uG 83 true 86 (doLoadA 3 (tm 85))), (uG 83 true 87 (doMove (tm 1))), (uG 83 true 88 (doIndexAddr 3 (tm 87) (oN 0))), (uG 83 true 89 (doLoadA 3 (tm 88))), (wG 83 true 90 (doBuildSlice 49 2 [(V.s 0 0), (V.b Bool.false), (V.s 0 0), (V.s 0 0), (V.b Bool.false), (V.s 0 0)] [(Pt.mk 0 3 (tm 86)), (Pt.mk 3 3 (tm 89))])), (wG 83 true 91 (doCall 15 [(tm 90)])), (uG 83 true 92 (doNot (tm 91))), (uB 93 (doPick (tm 83) (tm 92) (O.c (V.b Bool.false)))), (uB 94 (doMove (tm 93))), (uG 94 true 95 (doMove (tm 10))), (uG 94 true 96 (doLen (tm 95))), (uG 94 true 97 (bin2 fEql (tm 96) (oN 2))), (uB 98 (doPick (tm 94) (tm 97) (O.c (V.b Bool.false)))), (uB 99 (doMove (tm 98))), (uG 99 true 100 (doMove (tm 10))), (uG 99 true 101 (doIndexAddr 3 (tm 100) (oN 1))), (uG 99 true 102 (doFieldAddr 2 (tm 101))), (wG 99 true 103 (doLoad (tm 102))), (uG 99 true 104 (doSCmp eqS (tm 103) (O.c (V.s 1 121)))), (uB 105 (doPick (tm 99) (tm 104) (O.c (V.b Bool.false)))), (uB 106 (doMove (tm 105))), (uG 106 true 107 (doMove (tm 11))), (uG 106 true 108 (doLen (tm 107))), (uG 106 true 109 (bin2 fEql (tm 108) (oN 2))), (uB 110 (doPick (tm 106) (tm 109) (O.c (V.b Bool.false)))), (uB 111 (doMove (tm 110))), (uG 111 true 112 (doMove (tm 12))), (uG 111 true 113 (bin2 fEql (tm 112) (oN 3))), (uB 114 (doPick (tm 111) (tm 113) (O.c (V.b Bool.false)))), (uB 115 (doMove (tm 114))), (uG 115 true 116 (doMove (tm 13))), (uG 115 true 117 (doMove (tm 2))), (uG 115 true 118 (doLenS (tm 117))), (uG 115 true 119 (bin2 fEql (tm 116) (tm 118))), (uB 120 (doPick (tm 115) (tm 119) (O.c (V.b Bool.false)))), (uB 121 (doMove (tm 120))), (uG 121 true 122 (doMove (tm 1))), (wG 121 true 123 (doCall 21 [(oN 5), (tm 122)])), (uG 121 true 124 (doLen (tm 123))), (uG 121 true 125 (bin2 fEql (tm 124) (oN 2))), (uB 126 (doPick (tm 121) (tm 125) (O.c (V.b Bool.false)))), (uB 0 (doMove (tm 126)))]) CC.ret)
noncomputable abbrev s7_1 : CC := (CC.seq (CC.region [(wB 45 (doMove (tm 2))), (wB 46 (doConcat (tm 45) (O.c (V.s 1 122)))), (wB 47 (doCall 13 [(tm 46)])), (wB 44 (doMove (tm 47))), (wB 48 (doExtract 0 (tm 44))), (wB 49 (doExtract 1 (tm 44))), (wB 50 (doExtract 2 (tm 44))), (wB 11 (doMove (tm 48))), (wB 12 (doMove (tm 49))), (wB 13 (doMove (tm 50)))]) s7_0)
noncomputable abbrev s7_2 : CC := (CC.seq (CC.draws [(uB 35 (doMove (tm 1))), (uB 36 (doIndexAddr 3 (tm 35) (oN 1))), (uB 37 (doLoadA 3 (tm 36))), (uB 38 (doMove (tm 1))), (uB 39 (doIndexAddr 3 (tm 38) (oN 0))), (uB 40 (doLoadA 3 (tm 39))), (uB 41 (doBuild [(V.s 0 0), (V.b Bool.false), (V.s 0 0)] [(Pt.mk 0 1 (O.c (V.s 1 98))), (Pt.mk 2 1 (O.c (V.s 1 121)))])), (wB 42 (doBuildSlice 49 3 [(V.s 0 0), (V.b Bool.false), (V.s 0 0), (V.s 0 0), (V.b Bool.false), (V.s 0 0), (V.s 0 0), (V.b Bool.false), (V.s 0 0)] [(Pt.mk 0 3 (tm 37)), (Pt.mk 3 3 (tm 40)), (Pt.mk 6 3 (tm 41))])), (wB 43 (doCall 18 [(tm 42)])), (uB 10 (doMove (tm 43)))]) s7_1)
noncomputable abbrev s7_3 : CC := (CC.seq (CC.region [(wB 31 (doMove (tm 1))), (wB 32 (doCall 9 [(oN 0), (tm 31)])), (wB 30 (doMove (tm 32))), (wB 33 (doExtract 0 (tm 30))), (wB 34 (doExtract 1 (tm 30))), (wB 8 (doMove (tm 33))), (wB 9 (doMove (tm 34)))]) s7_2)
noncomputable abbrev s7_4 : CC := (CC.seq (CC.region [(wB 23 (doMove (tm 2))), (wB 24 (doConcat (tm 23) (O.c (V.s 1 122)))), (wB 25 (doCall 11 [(tm 24)])), (wB 22 (doMove (tm 25))), (wB 26 (doExtract 0 (tm 22))), (wB 27 (doExtract 1 (tm 22))), (wB 28 (doExtract 2 (tm 22))), (wB 29 (doExtract 3 (tm 22))), (wB 4 (doMove (tm 26))), (wB 5 (doMove (tm 27))), (wB 6 (doMove (tm 28))), (wB 7 (doMove (tm 29)))]) s7_3)
noncomputable abbrev s7_5 : CC := (CC.seq (CC.region [(wB 18 (doMove (tm 1))), (wB 19 (doCall 9 [(oN 3), (tm 18)])), (wB 17 (doMove (tm 19))), (wB 20 (doExtract 0 (tm 17))), (wB 21 (doExtract 1 (tm 17))), (wB 2 (doMove (tm 20))), (wB 3 (doMove (tm 21)))]) s7_4)
noncomputable abbrev s7_6 : CC := (CC.seq (CC.region [(wB 14 (doBuild [(V.s 0 0), (V.b Bool.false), (V.s 0 0)] [(Pt.mk 0 1 (O.c (V.s 1 97))), (Pt.mk 2 1 (O.c (V.s 1 120)))])), (wB 15 (doBuild [(V.s 0 0), (V.b Bool.false), (V.s 0 0)] [(Pt.mk 0 1 (O.c (V.s 1 98))), (Pt.mk 1 1 (O.c (V.b Bool.true)))])), (wB 16 (doBuildSlice 49 2 [(V.s 0 0), (V.b Bool.false), (V.s 0 0), (V.s 0 0), (V.b Bool.false), (V.s 0 0)] [(Pt.mk 0 3 (tm 14)), (Pt.mk 3 3 (tm 15))])), (wB 1 (doMove (tm 16)))]) s7_5)
noncomputable abbrev b7 : CC := (CC.seq (CC.region [(wB 0 (doMove (O.c (V.b Bool.false))))]) s7_6)
theorem c7 : compFn Try.prog 7 = ⟨127, b7, [(Rs.tmp (slOf 0))]⟩ := by kernel_rfl
noncomputable abbrev s3_0 : CC := (CC.seq (CC.region [(wB 6 (doMove (O.c (V.b Bool.false))))]) CC.ret)
noncomputable abbrev s3_1 : CC := (CC.cond (tm 26) s3_0 CC.skip)
noncomputable abbrev s3_2 : CC := (CC.seq (CC.region [(wB 25 (doCall 7 [])), (wB 26 (doNot (tm 25)))]) s3_1)
noncomputable abbrev s3_3 : CC := (CC.seq (CC.region [(wB 6 (doMove (O.c (V.b Bool.true))))]) CC.ret)
noncomputable abbrev s3_4 : CC := (CC.cond (tm 34) s3_3 CC.skip)
noncomputable abbrev s3_5 : CC := (CC.seq (CC.region [(wB 27 (doMove (tm 0))), (wB 28 (doCall 8 [(tm 27)])), (wB 29 (doNot (tm 28))), (wB 30 (doMove (tm 29))), (wG 30 false 31 (doMove (tm 2))), (wG 30 false 32 (doLenS (tm 31))), (wG 30 false 33 (bin2 fGtr (tm 32) (oN 1500))), (wB 34 (doPick (tm 30) (O.c (V.b Bool.true)) (tm 33)))]) s3_4)
noncomputable abbrev s3_6 : CC := (CC.seq (CC.region [(wB 73 (doMove (tm 0))), (wB 74 (doCall 15 [(tm 73)])), (wB 75 (doMove (tm 0))), (wB 76 (doCall 16 [(tm 75)])), (wB 77 (doBool Bool.false (tm 74) (tm 76))), (wB 78 (doMove (tm 77))), (wG 78 true 79 (doMove (tm 0))), (wG 78 true 80 (doCall 18 [(tm 79)])), (wG 78 true 81 (doMove (tm 0))), (wG 78 true 82 (doCall 19 [(tm 81)])), (wG 78 true 83 (doCall 17 [(tm 80), (tm 82)])), (wB 84 (doPick (tm 78) (tm 83) (O.c (V.b Bool.false)))), (wB 85 (doMove (tm 84))), (wG 85 true 86 (doMove (tm 7))), (wG 85 true 87 (doMove (tm 9))), (wG 85 true 88 (doSCmp eqS (tm 86) (tm 87))), (wB 89 (doPick (tm 85) (tm 88) (O.c (V.b Bool.false)))), (wB 90 (doMove (tm 89))), (wG 90 true 91 (doMove (tm 8))), (wG 90 true 92 (doMove (tm 10))), (wG 90 true 93 (bin2 fEql (tm 91) (tm 92))), (wB 94 (doPick (tm 90) (tm 93) (O.c (V.b Bool.false)))), (wB 95 (doMove (tm 94))), (wG 95 true 96 (doMove (tm 11))), (wG 95 true 97 (doMove (tm 15))), (wG 95 true 98 (bin2 fEql (tm 96) (tm 97))), (wB 99 (doPick (tm 95) (tm 98) (O.c (V.b Bool.false)))), (wB 100 (doMove (tm 99))), (wG 100 true 101 (doMove (tm 12))), (wG 100 true 102 (doMove (tm 16))), (wG 100 true 103 (doCall 17 [(tm 101), (tm 102)])), (wB 104 (doPick (tm 100) (tm 103) (O.c (V.b Bool.false)))), (wB 105 (doMove (tm 104))), (wG 105 true 106 (doMove (tm 13))), (wG 105 true 107 (doMove (tm 17))), (wG 105 true 108 (bin2 fEql (tm 106) (tm 107))), (wB 109 (doPick (tm 105) (tm 108) (O.c (V.b Bool.false)))), (wB 110 (doMove (tm 109))), (wG 110 true 111 (doMove (tm 14))), (wG 110 true 112 (doMove (tm 18))), (wG 110 true 113 (bin2 fEql (tm 111) (tm 112))), (wB 114 (doPick (tm 110) (tm 113) (O.c (V.b Bool.false)))), (wB 115 (doMove (tm 114))), (wG 115 true 116 (doMove (tm 19))), (wG 115 true 117 (doMove (tm 22))), (wG 115 true 118 (doCall 20 [(tm 116), (tm 117)])), (wB 119 (doPick (tm 115) (tm 118) (O.c (V.b Bool.false)))), (wB 120 (doMove (tm 119))), (wG 120 true 121 (doMove (tm 20))), (wG 120 true 122 (doMove (tm 23))), (wG 120 true 123 (bin2 fEql (tm 121) (tm 122))), (wB 124 (doPick (tm 120) (tm 123) (O.c (V.b Bool.false)))), (wB 125 (doMove (tm 124))), (wG 125 true 126 (doMove (tm 21))), (wG 125 true 127 (doMove (tm 24))), (wG 125 true 128 (bin2 fEql (tm 126) (tm 127))), (wB 129 (doPick (tm 125) (tm 128) (O.c (V.b Bool.false)))), (wB 130 (doMove (tm 129))), (wG 130 true 131 (doMove (tm 1))), (wG 130 true 132 (doMove (tm 0))), (wG 130 true 133 (doCall 21 [(tm 131), (tm 132)])), (wG 130 true 134 (doMove (tm 1))), (wG 130 true 135 (doMove (tm 0))), (wG 130 true 136 (doCall 22 [(tm 134), (tm 135)])), (wG 130 true 137 (doCall 20 [(tm 133), (tm 136)])), (wB 138 (doPick (tm 130) (tm 137) (O.c (V.b Bool.false)))), (wB 6 (doMove (tm 138)))]) CC.ret)
noncomputable abbrev s3_7 : CC := (CC.seq (CC.region [(wB 68 (doMove (tm 2))), (wB 69 (doCall 14 [(tm 68)])), (wB 67 (doMove (tm 69))), (wB 70 (doExtract 0 (tm 67))), (wB 71 (doExtract 1 (tm 67))), (wB 72 (doExtract 2 (tm 67))), (wB 22 (doMove (tm 70))), (wB 23 (doMove (tm 71))), (wB 24 (doMove (tm 72)))]) s3_6)
noncomputable abbrev s3_8 : CC := (CC.seq (CC.region [(wB 62 (doMove (tm 2))), (wB 63 (doCall 13 [(tm 62)])), (wB 61 (doMove (tm 63))), (wB 64 (doExtract 0 (tm 61))), (wB 65 (doExtract 1 (tm 61))), (wB 66 (doExtract 2 (tm 61))), (wB 19 (doMove (tm 64))), (wB 20 (doMove (tm 65))), (wB 21 (doMove (tm 66)))]) s3_7)
noncomputable abbrev s3_9 : CC := (CC.seq (CC.region [(wB 55 (doMove (tm 2))), (wB 56 (doCall 12 [(tm 55)])), (wB 54 (doMove (tm 56))), (wB 57 (doExtract 0 (tm 54))), (wB 58 (doExtract 1 (tm 54))), (wB 59 (doExtract 2 (tm 54))), (wB 60 (doExtract 3 (tm 54))), (wB 15 (doMove (tm 57))), (wB 16 (doMove (tm 58))), (wB 17 (doMove (tm 59))), (wB 18 (doMove (tm 60)))]) s3_8)
noncomputable abbrev s3_10 : CC := (CC.seq (CC.region [(wB 48 (doMove (tm 2))), (wB 49 (doCall 11 [(tm 48)])), (wB 47 (doMove (tm 49))), (wB 50 (doExtract 0 (tm 47))), (wB 51 (doExtract 1 (tm 47))), (wB 52 (doExtract 2 (tm 47))), (wB 53 (doExtract 3 (tm 47))), (wB 11 (doMove (tm 50))), (wB 12 (doMove (tm 51))), (wB 13 (doMove (tm 52))), (wB 14 (doMove (tm 53)))]) s3_9)
noncomputable abbrev s3_11 : CC := (CC.seq (CC.region [(wB 42 (doMove (tm 1))), (wB 43 (doMove (tm 0))), (wB 44 (doCall 10 [(tm 42), (tm 43)])), (wB 41 (doMove (tm 44))), (wB 45 (doExtract 0 (tm 41))), (wB 46 (doExtract 1 (tm 41))), (wB 9 (doMove (tm 45))), (wB 10 (doMove (tm 46)))]) s3_10)
noncomputable abbrev s3_12 : CC := (CC.seq (CC.region [(wB 36 (doMove (tm 1))), (wB 37 (doMove (tm 0))), (wB 38 (doCall 9 [(tm 36), (tm 37)])), (wB 35 (doMove (tm 38))), (wB 39 (doExtract 0 (tm 35))), (wB 40 (doExtract 1 (tm 35))), (wB 7 (doMove (tm 39))), (wB 8 (doMove (tm 40)))]) s3_11)
noncomputable abbrev s3_13 : CC := (CC.seq s3_5 s3_12)
noncomputable abbrev s3_14 : CC := (CC.seq s3_2 s3_13)
noncomputable abbrev b3 : CC := (CC.seq (CC.region [(wB 6 (doMove (O.c (V.b Bool.false))))]) s3_14)
theorem c3 : compFn Try.prog 3 = ⟨139, b3, [(Rs.tmp (slOf 6))]⟩ := by kernel_rfl
noncomputable abbrev s4_0 : CC := (CC.seq (CC.region [(wB 8 (doMove (O.c (V.b Bool.false))))]) CC.ret)
noncomputable abbrev s4_1 : CC := (CC.cond (tm 29) s4_0 CC.skip)
noncomputable abbrev s4_2 : CC := (CC.seq (CC.region [(wB 28 (doCall 7 [])), (wB 29 (doNot (tm 28)))]) s4_1)
noncomputable abbrev s4_3 : CC := (CC.seq (CC.region [(wB 8 (doMove (O.c (V.b Bool.true))))]) CC.ret)
noncomputable abbrev s4_4 : CC := (CC.cond (tm 37) s4_3 CC.skip)
noncomputable abbrev s4_5 : CC := (CC.seq (CC.region [(wB 30 (doMove (tm 0))), (wB 31 (doLen (tm 30))), (wB 32 (bin2 fGtr (tm 31) (oN 10))), (wB 33 (doMove (tm 32))), (wG 33 false 34 (doMove (tm 0))), (wG 33 false 35 (doLen (tm 34))), (wG 33 false 36 (bin2 fEql (tm 35) (oN 0))), (wB 37 (doPick (tm 33) (O.c (V.b Bool.true)) (tm 36)))]) s4_4)
noncomputable abbrev s4_6 : CC := (CC.cond (tm 47) CC.skip (CC.exit 0))
noncomputable abbrev s4_7 : CC := (CC.seq (CC.region [(wB 44 (doMove (tm 14))), (wB 45 (doMove (tm 0))), (wB 46 (doLen (tm 45))), (wB 47 (bin2 fLss (tm 44) (tm 46)))]) s4_6)
noncomputable abbrev s4_8 : CC := (CC.seq (CC.region [(wB 8 (doMove (O.c (V.b Bool.true))))]) CC.ret)
noncomputable abbrev s4_9 : CC := (CC.cond (tm 55) s4_8 CC.skip)
noncomputable abbrev s4_10 : CC := (CC.seq (CC.region [(wB 50 (doMove (tm 0))), (wB 51 (doMove (tm 14))), (wB 52 (doIndexAddr 1 (tm 50) (tm 51))), (wB 53 (doLoad (tm 52))), (wB 54 (doCall 8 [(tm 53)])), (wB 55 (doNot (tm 54)))]) s4_9)
noncomputable abbrev s4_11 : CC := (CC.region [(wB 73 (doMove (tm 16))), (wB 74 (bin2 fAdd (tm 73) (oN 1))), (wB 16 (doMove (tm 74)))])
noncomputable abbrev s4_12 : CC := (CC.cond (tm 72) s4_11 CC.skip)
noncomputable abbrev s4_13 : CC := (CC.seq (CC.region [(wB 66 (doMove (tm 13))), (wB 67 (bin2 fGtr (tm 66) (oN 0))), (wB 68 (doMove (tm 67))), (wG 68 true 69 (doMove (tm 14))), (wG 68 true 70 (doMove (tm 13))), (wG 68 true 71 (bin2 fGeq (tm 69) (tm 70))), (wB 72 (doPick (tm 68) (tm 71) (O.c (V.b Bool.false))))]) s4_12)
noncomputable abbrev s4_14 : CC := (CC.seq (CC.region [(wB 83 (doMove (tm 15))), (wB 84 (doCall 16 [(tm 83)])), (wB 85 (doNot (tm 84))), (wB 8 (doMove (tm 85)))]) CC.ret)
noncomputable abbrev s4_15 : CC := (CC.cond (tm 82) s4_14 CC.skip)
noncomputable abbrev s4_16 : CC := (CC.seq (CC.region [(wB 81 (doMove (tm 18))), (wB 82 (bin2 fNeq (tm 81) (oN 0)))]) s4_15)
noncomputable abbrev s4_17 : CC := (CC.region [(wB 93 (doMove (tm 10))), (wB 94 (doMove (tm 9))), (wB 95 (doLenS (tm 94))), (wB 96 (doBuildSlice 3 1 [(V.i IntKind.i64 (Int.ofNat 0))] [(Pt.mk 0 1 (tm 95))])), (wB 97 (doAppend 3 1 (tm 93) (tm 96))), (wB 98 (doMove (tm 11))), (wB 99 (doMove (tm 12))), (wB 100 (doBuildSlice 3 1 [(V.i IntKind.i64 (Int.ofNat 0))] [(Pt.mk 0 1 (tm 99))])), (wB 101 (doAppend 3 1 (tm 98) (tm 100))), (wB 10 (doMove (tm 97))), (wB 11 (doMove (tm 101)))])
noncomputable abbrev s4_18 : CC := (CC.seq (CC.region [(wB 89 (doMove (tm 12))), (wB 90 (doMove (tm 15))), (wB 91 (doLen (tm 90))), (wB 92 (bin2 fAdd (tm 89) (tm 91))), (wB 12 (doMove (tm 92)))]) s4_17)
noncomputable abbrev s4_19 : CC := (CC.seq (CC.region [(wB 86 (doMove (tm 9))), (wB 87 (doMove (tm 17))), (wB 88 (doConcat (tm 86) (tm 87))), (wB 9 (doMove (tm 88)))]) s4_18)
noncomputable abbrev s4_20 : CC := (CC.seq s4_16 s4_19)
noncomputable abbrev s4_21 : CC := (CC.seq (CC.region [(wB 76 (doMove (tm 16))), (wB 77 (doMove (tm 15))), (wB 78 (doCall 9 [(tm 76), (tm 77)])), (wB 75 (doMove (tm 78))), (wB 79 (doExtract 0 (tm 75))), (wB 80 (doExtract 1 (tm 75))), (wB 17 (doMove (tm 79))), (wB 18 (doMove (tm 80)))]) s4_20)
noncomputable abbrev s4_22 : CC := (CC.seq s4_13 s4_21)
noncomputable abbrev s4_23 : CC := (CC.seq (CC.region [(wB 61 (doMove (tm 1))), (wB 62 (doConv IntKind.i64 (tm 61))), (wB 63 (bin2 fAdd (tm 62) (oN 1))), (wB 64 (doMove (tm 14))), (wB 65 (bin2 fAdd (tm 63) (tm 64))), (wB 16 (doMove (tm 65)))]) s4_22)
noncomputable abbrev s4_24 : CC := (CC.seq (CC.region [(wB 56 (doMove (tm 0))), (wB 57 (doMove (tm 14))), (wB 58 (doIndexAddr 1 (tm 56) (tm 57))), (wB 59 (doLoad (tm 58))), (wB 60 (doCall 18 [(tm 59)])), (wB 15 (doMove (tm 60)))]) s4_23)
noncomputable abbrev s4_25 : CC := (CC.seq s4_10 s4_24)
noncomputable abbrev s4_26 : CC := (CC.block 1 s4_25)
noncomputable abbrev s4_27 : CC := (CC.region [(wB 48 (doMove (tm 14))), (wB 49 (bin2 fAdd (tm 48) (oN 1))), (wB 14 (doMove (tm 49)))])
noncomputable abbrev s4_28 : CC := (CC.seq s4_26 s4_27)
noncomputable abbrev l4_0 : CC := (CC.seq s4_7 s4_28)
noncomputable abbrev s4_29 : CC := (CC.loop l4_0)
noncomputable abbrev s4_30 : CC := (CC.block 0 s4_29)
noncomputable abbrev s4_31 : CC := (CC.seq (CC.region [(wB 14 (doMove (oN 0)))]) s4_30)
noncomputable abbrev s4_32 : CC := (CC.region [(wB 112 (doMove (tm 13))), (wB 19 (doMove (tm 112)))])
noncomputable abbrev s4_33 : CC := (CC.cond (tm 111) s4_32 CC.skip)
noncomputable abbrev s4_34 : CC := (CC.seq (CC.region [(wB 104 (doMove (tm 13))), (wB 105 (bin2 fGtr (tm 104) (oN 0))), (wB 106 (doMove (tm 105))), (wG 106 true 107 (doMove (tm 13))), (wG 106 true 108 (doMove (tm 0))), (wG 106 true 109 (doLen (tm 108))), (wG 106 true 110 (bin2 fLss (tm 107) (tm 109))), (wB 111 (doPick (tm 106) (tm 110) (O.c (V.b Bool.false))))]) s4_33)
noncomputable abbrev s4_35 : CC := (CC.seq (CC.region [(wB 8 (doMove (O.c (V.b Bool.false))))]) CC.ret)
noncomputable abbrev s4_36 : CC := (CC.cond (tm 143) s4_35 CC.skip)
noncomputable abbrev s4_37 : CC := (CC.seq (CC.region [(wB 119 (doMove (tm 20))), (wB 120 (doLen (tm 119))), (wB 121 (doMove (tm 11))), (wB 122 (doMove (tm 19))), (wB 123 (bin2 fSub (tm 122) (oN 1))), (wB 124 (doIndexAddr 1 (tm 121) (tm 123))), (wB 125 (doLoad (tm 124))), (wB 126 (bin2 fNeq (tm 120) (tm 125))), (wB 127 (doMove (tm 126))), (wG 127 false 128 (doMove (tm 21))), (wG 127 false 129 (doMove (tm 1))), (wG 127 false 130 (doConv IntKind.i64 (tm 129))), (wG 127 false 131 (doMove (tm 19))), (wG 127 false 132 (bin2 fAdd (tm 130) (tm 131))), (wG 127 false 133 (bin2 fNeq (tm 128) (tm 132))), (wB 134 (doPick (tm 127) (O.c (V.b Bool.true)) (tm 133))), (wB 135 (doMove (tm 134))), (wG 135 false 136 (doMove (tm 22))), (wG 135 false 137 (doMove (tm 10))), (wG 135 false 138 (doMove (tm 19))), (wG 135 false 139 (bin2 fSub (tm 138) (oN 1))), (wG 135 false 140 (doIndexAddr 1 (tm 137) (tm 139))), (wG 135 false 141 (doLoad (tm 140))), (wG 135 false 142 (bin2 fNeq (tm 136) (tm 141))), (wB 143 (doPick (tm 135) (O.c (V.b Bool.true)) (tm 142)))]) s4_36)
noncomputable abbrev s4_38 : CC := (CC.cond (tm 159) CC.skip (CC.exit 2))
noncomputable abbrev s4_39 : CC := (CC.seq (CC.region [(wB 149 (doMove (tm 24))), (wB 150 (doMove (tm 19))), (wB 151 (bin2 fLss (tm 149) (tm 150))), (wB 152 (doMove (tm 151))), (wG 152 true 153 (doMove (tm 10))), (wG 152 true 154 (doMove (tm 24))), (wG 152 true 155 (doIndexAddr 1 (tm 153) (tm 154))), (wG 152 true 156 (doLoad (tm 155))), (wG 152 true 157 (doMove (tm 23))), (wG 152 true 158 (bin2 fLeq (tm 156) (tm 157))), (wB 159 (doPick (tm 152) (tm 158) (O.c (V.b Bool.false))))]) s4_38)
noncomputable abbrev s4_40 : CC := (CC.region [(wB 160 (doMove (tm 24))), (wB 161 (bin2 fAdd (tm 160) (oN 1))), (wB 24 (doMove (tm 161)))])
noncomputable abbrev s4_41 : CC := (CC.block 3 s4_40)
noncomputable abbrev l4_1 : CC := (CC.seq s4_39 s4_41)
noncomputable abbrev s4_42 : CC := (CC.loop l4_1)
noncomputable abbrev s4_43 : CC := (CC.block 2 s4_42)
noncomputable abbrev s4_44 : CC := (CC.seq (CC.region [(wB 172 (doMove (tm 25))), (wB 173 (doLen (tm 172))), (wB 174 (bin2 fEql (tm 173) (oN 0))), (wB 175 (doMove (tm 174))), (wG 175 true 176 (doMove (tm 26))), (wG 175 true 177 (bin2 fEql (tm 176) (oN 0))), (wB 178 (doPick (tm 175) (tm 177) (O.c (V.b Bool.false)))), (wB 179 (doMove (tm 178))), (wG 179 true 180 (doMove (tm 27))), (wG 179 true 181 (bin2 fEql (tm 180) (oN 0))), (wB 182 (doPick (tm 179) (tm 181) (O.c (V.b Bool.false)))), (wB 8 (doMove (tm 182)))]) CC.ret)
noncomputable abbrev s4_45 : CC := (CC.cond (tm 171) s4_44 CC.skip)
noncomputable abbrev s4_46 : CC := (CC.seq (CC.region [(wB 170 (doMove (tm 24))), (wB 171 (bin2 fEql (tm 170) (oN 0)))]) s4_45)
noncomputable abbrev s4_47 : CC := (CC.seq (CC.region [(wB 183 (doMove (tm 25))), (wB 184 (doLen (tm 183))), (wB 185 (doMove (tm 11))), (wB 186 (doMove (tm 24))), (wB 187 (bin2 fSub (tm 186) (oN 1))), (wB 188 (doIndexAddr 1 (tm 185) (tm 187))), (wB 189 (doLoad (tm 188))), (wB 190 (bin2 fEql (tm 184) (tm 189))), (wB 191 (doMove (tm 190))), (wG 191 true 192 (doMove (tm 26))), (wG 191 true 193 (doMove (tm 1))), (wG 191 true 194 (doConv IntKind.i64 (tm 193))), (wG 191 true 195 (doMove (tm 24))), (wG 191 true 196 (bin2 fAdd (tm 194) (tm 195))), (wG 191 true 197 (bin2 fEql (tm 192) (tm 196))), (wB 198 (doPick (tm 191) (tm 197) (O.c (V.b Bool.false)))), (wB 199 (doMove (tm 198))), (wG 199 true 200 (doMove (tm 27))), (wG 199 true 201 (doMove (tm 10))), (wG 199 true 202 (doMove (tm 24))), (wG 199 true 203 (bin2 fSub (tm 202) (oN 1))), (wG 199 true 204 (doIndexAddr 1 (tm 201) (tm 203))), (wG 199 true 205 (doLoad (tm 204))), (wG 199 true 206 (bin2 fEql (tm 200) (tm 205))), (wB 207 (doPick (tm 199) (tm 206) (O.c (V.b Bool.false)))), (wB 8 (doMove (tm 207)))]) CC.ret)
noncomputable abbrev s4_48 : CC := (CC.seq s4_46 s4_47)
noncomputable abbrev s4_49 : CC := (CC.seq (CC.region [(wB 163 (doMove (tm 9))), (wB 164 (doMove (tm 23))), (wB 165 (doSSlice (tm 163) none (some (tm 164)))), (wB 166 (doCall 13 [(tm 165)])), (wB 162 (doMove (tm 166))), (wB 167 (doExtract 0 (tm 162))), (wB 168 (doExtract 1 (tm 162))), (wB 169 (doExtract 2 (tm 162))), (wB 25 (doMove (tm 167))), (wB 26 (doMove (tm 168))), (wB 27 (doMove (tm 169)))]) s4_48)
noncomputable abbrev s4_50 : CC := (CC.seq s4_43 s4_49)
noncomputable abbrev s4_51 : CC := (CC.seq (CC.region [(wB 24 (doMove (oN 0)))]) s4_50)
noncomputable abbrev s4_52 : CC := (CC.seq (CC.region [(wB 144 (doMove (tm 2))), (wB 145 (doConv IntKind.i64 (tm 144))), (wB 146 (doMove (tm 9))), (wB 147 (doLenS (tm 146))), (wB 148 (doRem (tm 145) (tm 147))), (wB 23 (doMove (tm 148)))]) s4_51)
noncomputable abbrev s4_53 : CC := (CC.seq s4_37 s4_52)
noncomputable abbrev s4_54 : CC := (CC.seq (CC.region [(wB 114 (doMove (tm 9))), (wB 115 (doCall 13 [(tm 114)])), (wB 113 (doMove (tm 115))), (wB 116 (doExtract 0 (tm 113))), (wB 117 (doExtract 1 (tm 113))), (wB 118 (doExtract 2 (tm 113))), (wB 20 (doMove (tm 116))), (wB 21 (doMove (tm 117))), (wB 22 (doMove (tm 118)))]) s4_53)
noncomputable abbrev s4_55 : CC := (CC.seq s4_34 s4_54)
noncomputable abbrev s4_56 : CC := (CC.seq (CC.region [(wB 102 (doMove (tm 0))), (wB 103 (doLen (tm 102))), (wB 19 (doMove (tm 103)))]) s4_55)
noncomputable abbrev s4_57 : CC := (CC.seq s4_31 s4_56)
noncomputable abbrev s4_58 : CC := (CC.seq (CC.region [(wB 38 (doMove (tm 3))), (wB 39 (doConv IntKind.i64 (tm 38))), (wB 40 (doMove (tm 0))), (wB 41 (doLen (tm 40))), (wB 42 (bin2 fMul (oN 2) (tm 41))), (wB 43 (doRem (tm 39) (tm 42))), (wB 13 (doMove (tm 43)))]) s4_57)
noncomputable abbrev s4_59 : CC := (CC.seq (CC.region [(wB 12 (doMove (oN 0)))]) s4_58)
noncomputable abbrev s4_60 : CC := (CC.seq (CC.region [(wB 10 (doMove (O.c V.l0))), (wB 11 (doMove (O.c V.l0)))]) s4_59)
noncomputable abbrev s4_61 : CC := (CC.seq (CC.region [(wB 9 (doMove (O.c (V.s 0 0))))]) s4_60)
noncomputable abbrev s4_62 : CC := (CC.seq s4_5 s4_61)
noncomputable abbrev s4_63 : CC := (CC.seq s4_2 s4_62)
noncomputable abbrev b4 : CC := (CC.seq (CC.region [(wB 8 (doMove (O.c (V.b Bool.false))))]) s4_63)
theorem c4 : compFn Try.prog 4 = ⟨208, b4, [(Rs.tmp (slOf 8))]⟩ := by kernel_rfl
noncomputable abbrev s5_0 : CC := (CC.seq (CC.region [(wB 2 (doMove (O.c (V.b Bool.false))))]) CC.ret)
noncomputable abbrev s5_1 : CC := (CC.cond (tm 11) s5_0 CC.skip)
noncomputable abbrev s5_2 : CC := (CC.seq (CC.region [(wB 10 (doCall 7 [])), (wB 11 (doNot (tm 10)))]) s5_1)
noncomputable abbrev s5_3 : CC := (CC.seq (CC.region [(wB 2 (doMove (O.c (V.b Bool.true))))]) CC.ret)
noncomputable abbrev s5_4 : CC := (CC.cond (tm 14) s5_3 CC.skip)
noncomputable abbrev s5_5 : CC := (CC.seq (CC.region [(wB 12 (doMove (tm 0))), (wB 13 (doLen (tm 12))), (wB 14 (bin2 fGtr (tm 13) (oN 30)))]) s5_4)
noncomputable abbrev s5_6 : CC := (CC.cond (tm 18) CC.skip (CC.exit 0))
noncomputable abbrev s5_7 : CC := (CC.seq (CC.region [(wB 15 (doMove (tm 5))), (wB 16 (doMove (tm 0))), (wB 17 (doLen (tm 16))), (wB 18 (bin2 fLss (tm 15) (tm 17)))]) s5_6)
noncomputable abbrev s5_8 : CC := (CC.region [(wB 31 (doMove (tm 3))), (wB 32 (doMove (tm 6))), (wB 33 (bin2 fAdd (oN 97) (tm 32))), (wB 34 (doConv IntKind.u8 (tm 33))), (wB 35 (doBuildSlice 5 1 [(V.i IntKind.u8 (Int.ofNat 0))] [(Pt.mk 0 1 (tm 34))])), (wB 36 (doB2S (tm 35))), (wB 37 (doMove (tm 5))), (wB 38 (bin2 fAdd (oN 65) (tm 37))), (wB 39 (doConv IntKind.u8 (tm 38))), (wB 40 (doBuildSlice 5 1 [(V.i IntKind.u8 (Int.ofNat 0))] [(Pt.mk 0 1 (tm 39))])), (wB 41 (doB2S (tm 40))), (wB 42 (doBuild [(V.s 0 0), (V.b Bool.false), (V.s 0 0)] [(Pt.mk 0 1 (tm 36)), (Pt.mk 2 1 (tm 41))])), (wB 43 (doBuildSlice 49 1 [(V.s 0 0), (V.b Bool.false), (V.s 0 0)] [(Pt.mk 0 3 (tm 42))])), (wB 44 (doAppend 49 3 (tm 31) (tm 43))), (wB 3 (doMove (tm 44)))])
noncomputable abbrev s5_9 : CC := (CC.seq (CC.region [(wB 27 (doMove (tm 6))), (wB 28 (doMove (tm 5))), (wB 29 (bin2 fAdd (tm 28) (oN 1))), (wB 30 (doIndexAddrArr 8 1 (tm 4) (tm 27))), (CO.mk G.none D.none Bool.true (CR.mk (doStore 1 (tm 30) (tm 29))))]) s5_8)
noncomputable abbrev s5_10 : CC := (CC.seq (CC.region [(wB 21 (doMove (tm 0))), (wB 22 (doMove (tm 5))), (wB 23 (doIndexAddr 1 (tm 21) (tm 22))), (wB 24 (doLoad (tm 23))), (wB 25 (doRem (tm 24) (O.c (V.i IntKind.u8 (Int.ofNat 8))))), (wB 26 (doConv IntKind.i64 (tm 25))), (wB 6 (doMove (tm 26)))]) s5_9)
noncomputable abbrev s5_11 : CC := (CC.block 1 s5_10)
noncomputable abbrev s5_12 : CC := (CC.region [(wB 19 (doMove (tm 5))), (wB 20 (bin2 fAdd (tm 19) (oN 1))), (wB 5 (doMove (tm 20)))])
noncomputable abbrev s5_13 : CC := (CC.seq s5_11 s5_12)
noncomputable abbrev l5_0 : CC := (CC.seq s5_7 s5_13)
noncomputable abbrev s5_14 : CC := (CC.loop l5_0)
noncomputable abbrev s5_15 : CC := (CC.block 0 s5_14)
noncomputable abbrev s5_16 : CC := (CC.seq (CC.region [(wB 5 (doMove (oN 0)))]) s5_15)
noncomputable abbrev s5_17 : CC := (CC.cond (tm 48) CC.skip (CC.exit 2))
noncomputable abbrev s5_18 : CC := (CC.seq (CC.region [(wB 47 (doMove (tm 9))), (wB 48 (bin2 fLss (tm 47) (oN 8)))]) s5_17)
noncomputable abbrev s5_19 : CC := (CC.cond (tm 54) (CC.exit 3) CC.skip)
noncomputable abbrev s5_20 : CC := (CC.seq (CC.region [(wB 51 (doMove (tm 9))), (wB 52 (doIndexAddrArr 8 1 (tm 4) (tm 51))), (wB 53 (doLoad (tm 52))), (wB 54 (bin2 fEql (tm 53) (oN 0)))]) s5_19)
noncomputable abbrev s5_21 : CC := (CC.seq (CC.region [(wB 2 (doMove (O.c (V.b Bool.false))))]) CC.ret)
noncomputable abbrev s5_22 : CC := (CC.cond (tm 72) s5_21 CC.skip)
noncomputable abbrev s5_23 : CC := (CC.seq (CC.draws [(uB 55 (doMove (tm 8))), (uB 56 (doMove (tm 7))), (uB 57 (doLen (tm 56))), (uB 58 (bin2 fGeq (tm 55) (tm 57))), (uB 59 (doMove (tm 58))), (uG 59 false 60 (doMove (tm 7))), (uG 59 false 61 (doMove (tm 8))), (uG 59 false 62 (doIndexAddr 3 (tm 60) (tm 61))), (uG 59 false 63 (doLoadA 3 (tm 62))), (uG 59 false 64 (doMove (tm 3))), (uG 59 false 65 (doMove (tm 9))), (uG 59 false 66 (doIndexAddrArr 8 1 (tm 4) (tm 65))), (uG 59 false 67 (doLoad (tm 66))), (uG 59 false 68 (bin2 fSub (tm 67) (oN 1))), (uG 59 false 69 (doIndexAddr 3 (tm 64) (tm 68))), (uG 59 false 70 (doLoadA 3 (tm 69))), (uG 59 false 71 (doSEq [KD.s, KD.b, KD.s] Bool.true (tm 63) (tm 70))), (uB 72 (doPick (tm 59) (O.c (V.b Bool.true)) (tm 71)))]) s5_22)
noncomputable abbrev s5_24 : CC := (CC.region [(wB 73 (doMove (tm 8))), (wB 74 (bin2 fAdd (tm 73) (oN 1))), (wB 8 (doMove (tm 74)))])
noncomputable abbrev s5_25 : CC := (CC.seq s5_23 s5_24)
noncomputable abbrev s5_26 : CC := (CC.seq s5_20 s5_25)
noncomputable abbrev s5_27 : CC := (CC.block 3 s5_26)
noncomputable abbrev s5_28 : CC := (CC.region [(wB 49 (doMove (tm 9))), (wB 50 (bin2 fAdd (tm 49) (oN 1))), (wB 9 (doMove (tm 50)))])
noncomputable abbrev s5_29 : CC := (CC.seq s5_27 s5_28)
noncomputable abbrev l5_1 : CC := (CC.seq s5_18 s5_29)
noncomputable abbrev s5_30 : CC := (CC.loop l5_1)
noncomputable abbrev s5_31 : CC := (CC.block 2 s5_30)
noncomputable abbrev s5_32 : CC := (CC.seq (CC.region [(wB 9 (doMove (oN 0)))]) s5_31)
noncomputable abbrev s5_33 : CC := (CC.seq (CC.region [(wB 75 (doMove (tm 8))), (wB 76 (doMove (tm 7))), (wB 77 (doLen (tm 76))), (wB 78 (bin2 fEql (tm 75) (tm 77))), (wB 79 (doMove (tm 78))), (wG 79 true 80 (doMove (tm 7))), (wG 79 true 81 (doCall 15 [(tm 80)])), (wB 82 (doPick (tm 79) (tm 81) (O.c (V.b Bool.false)))), (wB 2 (doMove (tm 82)))]) CC.ret)
noncomputable abbrev s5_34 : CC := (CC.seq s5_32 s5_33)
noncomputable abbrev s5_35 : CC := (CC.seq (CC.region [(wB 8 (doMove (oN 0)))]) s5_34)
noncomputable abbrev s5_36 : CC := (CC.seq (CC.region [(wB 45 (doMove (tm 3))), (wB 46 (doCall 18 [(tm 45)])), (wB 7 (doMove (tm 46)))]) s5_35)
noncomputable abbrev s5_37 : CC := (CC.seq s5_16 s5_36)
noncomputable abbrev s5_38 : CC := (CC.seq (CC.region [(wB 4 (doAlloc 47 [(V.i IntKind.i64 (Int.ofNat 0)), (V.i IntKind.i64 (Int.ofNat 0)), (V.i IntKind.i64 (Int.ofNat 0)), (V.i IntKind.i64 (Int.ofNat 0)), (V.i IntKind.i64 (Int.ofNat 0)), (V.i IntKind.i64 (Int.ofNat 0)), (V.i IntKind.i64 (Int.ofNat 0)), (V.i IntKind.i64 (Int.ofNat 0))]))]) s5_37)
noncomputable abbrev s5_39 : CC := (CC.seq (CC.region [(wB 3 (doMove (O.c V.l0)))]) s5_38)
noncomputable abbrev s5_40 : CC := (CC.seq s5_5 s5_39)
noncomputable abbrev s5_41 : CC := (CC.seq s5_2 s5_40)
noncomputable abbrev b5 : CC := (CC.seq (CC.region [(wB 2 (doMove (O.c (V.b Bool.false))))]) s5_41)
theorem c5 : compFn Try.prog 5 = ⟨83, b5, [(Rs.tmp (slOf 2))]⟩ := by kernel_rfl
noncomputable abbrev s6_0 : CC := (CC.seq (CC.region [(wB 6 (doMove (O.c (V.b Bool.false))))]) CC.ret)
noncomputable abbrev s6_1 : CC := (CC.cond (tm 16) s6_0 CC.skip)
noncomputable abbrev s6_2 : CC := (CC.seq (CC.region [(wB 15 (doCall 7 [])), (wB 16 (doNot (tm 15)))]) s6_1)
noncomputable abbrev s6_3 : CC := (CC.cond (tm 23) CC.skip (CC.exit 0))
noncomputable abbrev s6_4 : CC := (CC.seq (CC.region [(wB 21 (doMove (tm 9))), (wB 22 (doMove (tm 7))), (wB 23 (bin2 fLss (tm 21) (tm 22)))]) s6_3)
noncomputable abbrev s6_5 : CC := (CC.region [(wB 26 (doMove (tm 8))), (wB 27 (doMove (tm 9))), (wB 28 (bin2 fAdd (oN 97) (tm 27))), (wB 29 (doConv IntKind.u8 (tm 28))), (wB 30 (doBuildSlice 5 1 [(V.i IntKind.u8 (Int.ofNat 0))] [(Pt.mk 0 1 (tm 29))])), (wB 31 (doB2S (tm 30))), (wB 32 (doBuild [(V.s 0 0), (V.b Bool.false), (V.s 0 0)] [(Pt.mk 0 1 (tm 31)), (Pt.mk 2 1 (O.c (V.s 1 118)))])), (wB 33 (doBuildSlice 49 1 [(V.s 0 0), (V.b Bool.false), (V.s 0 0)] [(Pt.mk 0 3 (tm 32))])), (wB 34 (doAppend 49 3 (tm 26) (tm 33))), (wB 8 (doMove (tm 34)))])
noncomputable abbrev s6_6 : CC := (CC.block 1 s6_5)
noncomputable abbrev s6_7 : CC := (CC.region [(wB 24 (doMove (tm 9))), (wB 25 (bin2 fAdd (tm 24) (oN 1))), (wB 9 (doMove (tm 25)))])
noncomputable abbrev s6_8 : CC := (CC.seq s6_6 s6_7)
noncomputable abbrev l6_0 : CC := (CC.seq s6_4 s6_8)
noncomputable abbrev s6_9 : CC := (CC.loop l6_0)
noncomputable abbrev s6_10 : CC := (CC.block 0 s6_9)
noncomputable abbrev s6_11 : CC := (CC.seq (CC.region [(wB 9 (doMove (oN 0)))]) s6_10)
noncomputable abbrev s6_12 : CC := (CC.seq (CC.region [(wB 6 (doMove (O.c (V.b Bool.false))))]) CC.ret)
noncomputable abbrev s6_13 : CC := (CC.cond (tm 68) s6_12 CC.skip)
noncomputable abbrev s6_14 : CC := (CC.seq (CC.region [(wB 49 (doMove (tm 8))), (wB 50 (doCall 15 [(tm 49)])), (wB 51 (doMove (tm 10))), (wB 52 (doBool Bool.true (tm 50) (tm 51))), (wB 53 (doMove (tm 52))), (wG 53 false 54 (doMove (tm 12))), (wG 53 false 55 (bin2 fEql (tm 54) (oN 0))), (wG 53 false 56 (doMove (tm 10))), (wG 53 false 57 (doMove (tm 56))), (wG 57 true 58 (doMove (tm 13))), (wG 53 false 59 (doPick (tm 57) (tm 58) (O.c (V.b Bool.false)))), (wG 53 false 60 (doBool Bool.true (tm 55) (tm 59))), (wB 61 (doPick (tm 53) (O.c (V.b Bool.true)) (tm 60))), (wB 62 (doMove (tm 61))), (wG 62 false 63 (doMove (tm 11))), (wG 62 false 64 (doSCmp eqS (tm 63) (O.c (V.s 0 0)))), (wG 62 false 65 (doMove (tm 12))), (wG 62 false 66 (bin2 fNeq (tm 65) (oN 0))), (wG 62 false 67 (doBool Bool.true (tm 64) (tm 66))), (wB 68 (doPick (tm 62) (O.c (V.b Bool.true)) (tm 67)))]) s6_13)
noncomputable abbrev s6_15 : CC := (CC.seq (CC.region [(wB 6 (doMove (O.c (V.b Bool.false))))]) CC.ret)
noncomputable abbrev s6_16 : CC := (CC.cond (tm 106) s6_15 CC.skip)
noncomputable abbrev s6_17 : CC := (CC.seq (CC.region [(wB 92 (doMove (tm 8))), (wB 93 (doCall 15 [(tm 92)])), (wB 94 (doMove (tm 93))), (wG 94 false 95 (doMove (tm 8))), (wG 94 false 96 (doCall 21 [(oN 1), (tm 95)])), (wG 94 false 97 (doLen (tm 96))), (wG 94 false 98 (bin2 fNeq (tm 97) (oN 0))), (wB 99 (doPick (tm 94) (O.c (V.b Bool.true)) (tm 98))), (wB 100 (doMove (tm 99))), (wG 100 false 101 (doMove (tm 8))), (wG 100 false 102 (doCall 18 [(tm 101)])), (wG 100 false 103 (doLen (tm 102))), (wG 100 false 104 (doMove (tm 7))), (wG 100 false 105 (bin2 fNeq (tm 103) (tm 104))), (wB 106 (doPick (tm 100) (O.c (V.b Bool.true)) (tm 105)))]) s6_16)
noncomputable abbrev s6_18 : CC := (CC.seq (CC.draws [(uB 76 (doMove (tm 8))), (uB 77 (doMove (tm 14))), (uB 78 (doMove (tm 8))), (uB 79 (doMove (tm 14))), (uB 80 (bin2 fAdd (tm 79) (oN 1))), (uB 81 (doMove (tm 8))), (uB 82 (doMove (tm 14))), (uB 83 (bin2 fAdd (tm 82) (oN 1))), (uB 84 (doIndexAddr 3 (tm 81) (tm 83))), (uB 85 (doLoadA 3 (tm 84))), (uB 86 (doMove (tm 8))), (uB 87 (doMove (tm 14))), (uB 88 (doIndexAddr 3 (tm 86) (tm 87))), (uB 89 (doLoadA 3 (tm 88))), (uB 90 (doIndexAddr 3 (tm 76) (tm 77))), (CO.mk G.none D.none Bool.true (CR.mk (doStore 3 (tm 90) (tm 85)))), (uB 91 (doIndexAddr 3 (tm 78) (tm 80))), (CO.mk G.none D.none Bool.true (CR.mk (doStore 3 (tm 91) (tm 89))))]) s6_17)
noncomputable abbrev s6_19 : CC := (CC.seq (CC.region [(wB 71 (doMove (tm 2))), (wB 72 (doConv IntKind.i64 (tm 71))), (wB 73 (doMove (tm 7))), (wB 74 (bin2 fSub (tm 73) (oN 1))), (wB 75 (doRem (tm 72) (tm 74))), (wB 14 (doMove (tm 75)))]) s6_18)
noncomputable abbrev s6_20 : CC := (CC.cond (tm 70) s6_19 CC.skip)
noncomputable abbrev s6_21 : CC := (CC.seq (CC.region [(wB 69 (doMove (tm 7))), (wB 70 (bin2 fGtr (tm 69) (oN 1)))]) s6_20)
noncomputable abbrev s6_22 : CC := (CC.seq (CC.region [(wB 6 (doMove (O.c (V.b Bool.true))))]) CC.ret)
noncomputable abbrev s6_23 : CC := (CC.seq s6_21 s6_22)
noncomputable abbrev s6_24 : CC := (CC.seq s6_14 s6_23)
noncomputable abbrev s6_25 : CC := (CC.seq (CC.region [(wB 43 (doMove (tm 1))), (wB 44 (bin2 fGeq (tm 43) (oN 1))), (wB 45 (doMove (tm 44))), (wG 45 true 46 (doMove (tm 1))), (wG 45 true 47 (bin2 fLeq (tm 46) (oN 1000000))), (wB 48 (doPick (tm 45) (tm 47) (O.c (V.b Bool.false)))), (wB 13 (doMove (tm 48)))]) s6_24)
noncomputable abbrev s6_26 : CC := (CC.seq (CC.region [(wB 38 (doMove (tm 1))), (wB 39 (doMove (tm 8))), (wB 40 (doCall 9 [(tm 38), (tm 39)])), (wB 37 (doMove (tm 40))), (wB 41 (doExtract 0 (tm 37))), (wB 42 (doExtract 1 (tm 37))), (wB 11 (doMove (tm 41))), (wB 12 (doMove (tm 42)))]) s6_25)
noncomputable abbrev s6_27 : CC := (CC.seq (CC.region [(wB 35 (doMove (tm 7))), (wB 36 (bin2 fLeq (tm 35) (oN 8))), (wB 10 (doMove (tm 36)))]) s6_26)
noncomputable abbrev s6_28 : CC := (CC.seq s6_11 s6_27)
noncomputable abbrev s6_29 : CC := (CC.seq (CC.region [(wB 8 (doMove (O.c V.l0)))]) s6_28)
noncomputable abbrev s6_30 : CC := (CC.seq (CC.region [(wB 17 (doMove (tm 0))), (wB 18 (doRem (tm 17) (O.c (V.i IntKind.u8 (Int.ofNat 11))))), (wB 19 (doConv IntKind.i64 (tm 18))), (wB 20 (bin2 fAdd (tm 19) (oN 1))), (wB 7 (doMove (tm 20)))]) s6_29)
noncomputable abbrev s6_31 : CC := (CC.seq s6_2 s6_30)
noncomputable abbrev b6 : CC := (CC.seq (CC.region [(wB 6 (doMove (O.c (V.b Bool.false))))]) s6_31)
theorem c6 : compFn Try.prog 6 = ⟨107, b6, [(Rs.tmp (slOf 6))]⟩ := by kernel_rfl
end Go.Proofs.Ythncpgkpkdolfaa

set_option linter.all false
namespace Go.Ev
open Go
def wkB (k i : Nat) : Wri := ⟨[UInt8.ofNat (97 + k)], false, [UInt8.ofNat (65 + i)]⟩
/-- which of the letters -/
def k8 (K : List Int) (i : Nat) : Nat := (K.getD i 0 % 8).toNat
theorem k8_lt (K : List Int) (i : Nat) : k8 K i < 8 := by unfold k8; omega
def keysL (K : List Int) (n : Nat) : List Wri := (List.range n).map fun i => wkB (k8 K i) i
theorem keysL_len (K : List Int) (n : Nat) : (keysL K n).length = n := by unfold keysL; simp
theorem keysL_at {K : List Int} {n i : Nat} (h : i < n) : (keysL K n).getD i default = wkB (k8 K i) i := by unfold keysL; simp [List.getD, h]
theorem keysL_succ (K : List Int) (n : Nat) : keysL K (n + 1) = keysL K n ++ [wkB (k8 K n) n] := by unfold keysL; rw [List.range_succ, List.map_append]; rfl
theorem keysL_take {K : List Int} {n j : Nat} (h : j ≤ n) : (keysL K n).take j = keysL K j := by
  unfold keysL; rw [← List.map_take, List.take_range, Nat.min_eq_left h]
/-- the last place of a letter, and one; 0: none -/
def lastN (K : List Int) : Nat → Nat → Nat
  | 0, _ => 0
  | n + 1, k => if k = k8 K n then n + 1 else lastN K n k
theorem lastN_le (K : List Int) : ∀ n k, lastN K n k ≤ n
  | 0, _ => Nat.le_refl _
  | n + 1, k => by unfold lastN; split; exact Nat.le_refl _; exact Nat.le_succ_of_le (lastN_le K n k)
theorem lastN_key (K : List Int) : ∀ n k, lastN K n k ≠ 0 → k8 K (lastN K n k - 1) = k
  | 0, _, h => absurd rfl h
  | n + 1, k, h => by
    unfold lastN at h ⊢
    split
    · rename_i e; rw [e]; rfl
    · rename_i e; rw [if_neg e] at h; exact lastN_key K n k h
def laC (K : List Int) (n : Nat) : List V := (List.range 8).map fun k => V.i .i64 (lastN K n k : Int)
theorem laC_set {K : List Int} {n : Nat} : (laC K n).set (k8 K n) (.i .i64 ((n : Int) + 1)) = laC K (n + 1) := by
  unfold laC
  refine List.ext_getElem (by simp) fun i h1 h2 => ?_
  rw [List.getElem_set]
  simp only [List.getElem_map, List.getElem_range]
  show _ = V.i .i64 ((if i = k8 K n then n + 1 else lastN K n i : Nat) : Int)
  by_cases e : k8 K n = i
  · rw [if_pos e, if_pos e.symm]; rfl
  · rw [if_neg e, if_neg fun h => e h.symm]
theorem laC_at {K : List Int} {n k : Nat} (h : k < 8) : (laC K n).getD k .u = .i .i64 (lastN K n k : Int) := by unfold laC; simp [List.getD, h]
theorem laC_len (K : List Int) (n : Nat) : (laC K n).length = 8 := by unfold laC; simp
/-- the last of each letter, up to that letter -/
def lasU (K : List Int) (n m : Nat) : List Wri := (List.range m).filterMap fun k => if lastN K n k = 0 then none else some (wkB k (lastN K n k - 1))
theorem lasU_succ (K : List Int) (n m : Nat) : lasU K n (m + 1) = lasU K n m ++ (if lastN K n m = 0 then [] else [wkB m (lastN K n m - 1)]) := by
  unfold lasU; rw [List.range_succ, List.filterMap_append]
  congr 1
  rw [List.filterMap_cons]; split <;> rename_i h
  · split at h
    · rename_i e; rw [if_pos e]; rfl
    · cases h
  · split at h
    · cases h
    · rename_i e; rw [if_neg e]; cases h; rfl
theorem lasU_mem {K : List Int} {n m : Nat} {w : Wri} : w ∈ lasU K n m ↔ ∃ k, k < m ∧ lastN K n k ≠ 0 ∧ w = wkB k (lastN K n k - 1) := by
  unfold lasU
  rw [List.mem_filterMap]
  constructor
  · rintro ⟨k, hk, e⟩
    split at e
    · cases e
    · rename_i h0; cases e; exact ⟨k, List.mem_range.1 hk, h0, rfl⟩
  · rintro ⟨k, hk, h0, e⟩
    exact ⟨k, List.mem_range.2 hk, by rw [if_neg h0, e]⟩
theorem wk_less {a b i j : Nat} (ha : a < b) (hb : b < 8) : Op.bytesLess (wkB a i).key (wkB b j).key = true := by
  unfold wkB Op.bytesLess
  have h1 : (UInt8.ofNat (97 + a)).toNat = 97 + a := by simp; omega
  have h2 : (UInt8.ofNat (97 + b)).toNat = 97 + b := by simp; omega
  simp [UInt8.lt_iff_toNat_lt]
  omega
theorem wk_key {a b i j : Nat} (ha : a < 8) (hb : b < 8) : (wkB a i).key = (wkB b j).key ↔ a = b := by
  constructor
  · intro h
    rcases Nat.lt_trichotomy a b with e | e | e
    · have := wk_less (i := i) (j := j) e hb; rw [h, bl_irr] at this; cases this
    · exact e
    · have := wk_less (i := j) (j := i) e ha; rw [h, bl_irr] at this; cases this
  · intro e; rw [e]; rfl
theorem lasU_up (K : List Int) (n : Nat) : ∀ m, m ≤ 8 → Up (lasU K n m)
  | 0, _ => List.Pairwise.nil
  | m + 1, h => by
    rw [lasU_succ]
    refine List.pairwise_append.2 ⟨lasU_up K n m (by omega), by split <;> simp, fun a ha b hb => ?_⟩
    split at hb
    · cases hb
    · obtain ⟨k, hk, _, e⟩ := lasU_mem.1 ha
      rw [e, List.mem_singleton.1 hb]
      exact wk_less hk (by omega)
theorem neat_keys (K : List Int) : ∀ n, neatB (keysL K n) = lasU K n 8
  | 0 => by
    have : lasU K 0 8 = [] := by
      refine List.eq_nil_iff_forall_not_mem.2 fun w hw => ?_
      obtain ⟨k, _, h, _⟩ := lasU_mem.1 hw
      exact h rfl
    rw [this]; rfl
  | n + 1 => by
    have e1 : neatB (keysL K (n + 1)) = insW (wkB (k8 K n) n) (lasU K n 8) := by
      have h := neatB_step (L := keysL K (n + 1)) (i := n) (by rw [keysL_len]; omega)
      rw [keysL_take (Nat.le_refl _), keysL_take (by omega), keysL_at (by omega), neat_keys K n] at h
      exact h
    rw [e1]
    refine up_ext (insW_up (lasU_up K n 8 (Nat.le_refl _))) (lasU_up K (n + 1) 8 (Nat.le_refl _)) fun w => ?_
    rw [insW_mem (lasU_up K n 8 (Nat.le_refl _)), lasU_mem, lasU_mem]
    have hq := k8_lt K n
    constructor
    · rintro (e | ⟨⟨k, hk, h0, e⟩, hne⟩)
      · exact ⟨k8 K n, hq, by unfold lastN; rw [if_pos rfl]; omega, by rw [e]; unfold lastN; rw [if_pos rfl]; rfl⟩
      · have hk2 : ¬ k = k8 K n := fun e2 => hne (by rw [e, e2]; rfl)
        exact ⟨k, hk, by unfold lastN; rw [if_neg hk2]; exact h0, by unfold lastN; rw [if_neg hk2]; exact e⟩
    · rintro ⟨k, hk, h0, e⟩
      by_cases hk2 : k = k8 K n
      · left
        rw [e]; unfold lastN; rw [if_pos hk2, hk2]; rfl
      · right
        unfold lastN at h0 e
        rw [if_neg hk2] at h0 e
        refine ⟨⟨k, hk, h0, e⟩, fun h => hk2 ?_⟩
        rw [e] at h
        exact (wk_key hk hq).1 h
theorem lasU_split {K : List Int} {n : Nat} : ∀ {m k : Nat}, k < m → lastN K n k ≠ 0 → (lasU K n m).getD (lasU K n k).length default = wkB k (lastN K n k - 1) ∧ (lasU K n k).length < (lasU K n m).length
  | 0, _, h, _ => absurd h (by omega)
  | m + 1, k, h, h0 => by
    rw [lasU_succ]
    by_cases e : k = m
    · subst e
      rw [if_neg h0]; simp [List.getD]
    · have := lasU_split (m := m) (k := k) (by omega) h0
      refine ⟨?_, by rw [List.length_append]; omega⟩
      rw [List.getD_eq_getElem?_getD, List.getElem?_append_left this.2, ← List.getD_eq_getElem?_getD]
      exact this.1
theorem isR_wk (k i : Nat) : isR (wkB k i) = true := by
  unfold isR isW wkB
  exact decide_eq_true ⟨by simp, by simp, by simp, by simp⟩
theorem lasU_is (K : List Int) (n : Nat) : isB (lasU K n 8) = true := by
  refine isB_of (lasU_up K n 8 (Nat.le_refl _)) (fun w hw => ?_) ?_
  · obtain ⟨k, _, _, e⟩ := lasU_mem.1 hw
    rw [e]; exact isR_wk _ _
  · unfold lasU
    have := List.length_filterMap_le (fun k => if lastN K n k = 0 then none else some (wkB k (lastN K n k - 1))) (List.range 8)
    simpa using this
end Go.Ev

set_option maxRecDepth 100000
set_option maxHeartbeats 8000000
set_option linter.all false
namespace Go.Proofs.Ythncpgkpkdolfaa
open Go Go.Ev
theorem kl_lnB {P : Program} {h h0 : H} {N : Nx} {kd : IntKind} {v : V} {xs : List Int} (a : Kl h0 kd v xs) : H1 P gLen v h N = N.go P (.i .i64 (xs.length : Int)) h := by rw [Lst.ln a, List.length_map]
theorem kl_ixB {P : Program} {h h0 : H} {N : Nx} {kd : IntKind} {v : V} {xs : List Int} {i : Nat} (a : Kl h0 kd v xs) (hi : i < xs.length) : IX P 1 v i h N = N.go P (.p (lid v) (lg v) (loff v + i) (lfin v)) h := Lst.ix a (by simpa using hi)
theorem kl_ldB {P : Program} {h : H} {N : Nx} {kd : IntKind} {v : V} {xs : List Int} {i : Nat} (a : Kl h kd v xs) (hi : i < xs.length) : L1 P (lid v) (lg v) (loff v + i) (lfin v) h N = N.go P (.i kd (xs.getD i 0)) h := hv_of fun k => load_lst a (by simp [hi]) k
theorem batchNeat_ok {h : H} {x : V} {A : List Int} (hA : Kl h .u8 x A) (hl1 : A.length ≤ 9223372036854775807) (hw1 : ∀ n ∈ A, 0 ≤ n ∧ n ≤ 255) (hf : B.val h.floor ≤ B.val h.next) : FnOk Try.prog 5 [x] h fun y h' => y = .b true ∧ Stay nowhere h h' := by
  refine fn_go c5 (by intro hb; cases hb) (by simp) (by simp) fun Q hQ => ?_
  simp only [slotsF, Nat.reduceAdd]
  repeat' (first
    | refine St.h ?_
    | simp (disch := first | omega | (simp only [lnv]; omega)) only [wlk, ↓get_put', ↓reduceIte, seval]
    | (with_reducible (first | apply cd_split | apply gd_split)) <;> (intro hc; (try simp only [hcn] at hc); (try simp only [hc]); (try simp only [hcl] at hc); try omega))
  refine CL.pure known12 ?_
  by_cases hl : 30 < A.length
  · have hc : ((30 : Int) < (A.length : Int)) = True := eq_true (by omega)
    repeat' (first
      | refine St.h ?_
      | simp (disch := first | omega | (simp only [lnv]; omega)) only [wlk, ↓get_put', ↓reduceIte, seval, kl_lnB hA, hc]
      | (with_reducible (first | apply cd_split | apply gd_split)) <;> (intro hc; (try simp only [hcn] at hc); (try simp only [hc]); (try simp only [hcl] at hc); try omega))
    subst hQ
    exact ⟨rfl, Stay.refl _ _⟩
  have hc : ((30 : Int) < (A.length : Int)) = False := eq_false (by omega)
  repeat' (first
    | refine St.h ?_
    | simp (disch := first | omega | (simp only [lnv]; omega)) only [wlk, ↓get_put', ↓reduceIte, seval, kl_lnB hA, hc]
    | (with_reducible (first | apply cd_split | apply gd_split)) <;> (intro hc; (try simp only [hcn] at hc); (try simp only [hc]); (try simp only [hcl] at hc); try omega))
  refine AL.own (by simp) hf fun h1 s1 n1 o1 => ?_
  have o1 : Ev.Own h1 h.next (laC A 0) := o1
  have hf1 := s1.fl hf
  repeat' (first
    | refine St.h ?_
    | simp (disch := first | omega | (simp only [lnv]; omega)) only [wlk, ↓get_put', ↓reduceIte, seval]
    | (with_reducible (first | apply cd_split | apply gd_split)) <;> (intro hc; (try simp only [hcn] at hc); (try simp only [hc]); (try simp only [hcl] at hc); try omega))
  refine Ok.lp (fun m t g => ∃ (i : Nat) (u : V), m = A.length - i ∧ i ≤ A.length ∧ get 0 t = x ∧ get 3 t = u ∧ get 4 t = .p h.next 0 0 8 ∧ get 5 t = .i .i64 (i : Int) ∧ Ev.Own g h.next (laC A i) ∧ Buf g 49 3 u ((keysL A i).flatMap wriC) ∧ (∀ q, isOf u q → B.val h1.next ≤ B.val q) ∧ Stay nowhere h g ∧ B.val h1.next ≤ B.val g.next) A.length ?_ ?_
  · simp (disch := first | omega | (simp only [lnv]; omega)) only [wlk, ↓get_put', ↓reduceIte, seval]
    refine ⟨0, .l0, by omega, by omega, ?_, ?_, ?_, ?_, o1, Buf.nil _ _ _, ?_, s1, Nat.le_refl _⟩
    rotate_right
    · rintro i ⟨_, _, _, _, _, e⟩; cases e
    all_goals first | trivial | rfl
  rintro I hI m t g ⟨i, u, rfl, hi, f0, f3, f4, f5, og, bf, own, st, nx⟩
  have hfg := st.fl hf
  have hAg : Kl g .u8 x A := Lst.grow hA st
  have hne : ∀ q, isOf u q → q ≠ h.next := fun q hq e => by have := own q hq; rw [e] at this; omega
  by_cases hil : i < A.length
  case pos =>
    have hc : A.getD i 0 ∈ A := by rw [List.getD_eq_getElem?_getD, List.getElem?_eq_getElem hil]; simp
    have hcb := hw1 _ hc
    have hq8 := k8_lt A i
    have hq : A.getD i 0 % 8 = (k8 A i : Int) := by unfold k8; omega
    have hset := laC_set (K := A) (n := i)
    have hkl := laC_len A i
    have e1 : (97 : Int) + (k8 A i : Int) = ((97 + k8 A i : Nat) : Int) := by omega
    have e2 : (65 : Int) + (i : Int) = ((65 + i : Nat) : Int) := by omega
    generalize hcc : A.getD i 0 = c at *
    repeat' (first
      | refine St.h ?_
      | simp (disch := first | omega | (simp only [lnv]; omega)) only [wlk, ↓get_put', ↓reduceIte, seval, f0, f3, f4, f5, kl_lnB hAg, kl_ixB hAg hil, kl_ldB hAg hil, hcc, hq, Int.toNat_natCast]
      | (with_reducible (first | apply cd_split | apply gd_split)) <;> (intro hc; (try simp only [hcn] at hc); (try simp only [hc]); (try simp only [hcl] at hc); try omega))
    refine ST.own (y := .i .i64 ((i : Int) + 1)) og rfl rfl (by omega) (by omega) fun g1 p1 t1 => ?_
    rw [hset] at p1
    have hf1' := t1.fl hfg
    have b1 := bf.stay t1 fun q hq e => hne q hq e
    repeat' (first
      | refine St.h ?_
      | simp (disch := first | omega | (simp only [lnv]; omega)) only [wlk, ↓get_put', ↓reduceIte, seval, f0, f3, f4, f5]
      | (with_reducible (first | apply cd_split | apply gd_split)) <;> (intro hc; (try simp only [hcn] at hc); (try simp only [hc]); (try simp only [hcl] at hc); try omega))
    have c1 : (UInt8.ofNat (97 + k8 A i)).toNat = 97 + k8 A i := by simp; omega
    have c2 : (UInt8.ofNat (65 + i)).toNat = 65 + i := by simp; omega
    refine AL.str (bs := [UInt8.ofNat (97 + k8 A i)]) (by show [_] = [bv _]; unfold bv; rw [c1]; congr 2) (by simp) rfl rfl (by simp) hf1' fun g2 u2 t2 => ?_
    have hf2 := t2.fl hf1'
    have p2 := p1.stay t2 fun e => e
    have b2 := b1.grow t2
    repeat' (first
      | refine St.h ?_
      | simp (disch := first | omega | (simp only [lnv]; omega)) only [wlk, ↓get_put', ↓reduceIte, seval, f0, f3, f4, f5]
      | (with_reducible (first | apply cd_split | apply gd_split)) <;> (intro hc; (try simp only [hcn] at hc); (try simp only [hc]); (try simp only [hcl] at hc); try omega))
    refine AL.str (bs := [UInt8.ofNat (65 + i)]) (by show [_] = [bv _]; unfold bv; rw [c2]; congr 2) (by simp) rfl rfl (by simp) hf2 fun g3 u3 t3 => ?_
    have hf3 := t3.fl hf2
    have p3 := p2.stay t3 fun e => e
    have b3 := b2.grow t3
    repeat' (first
      | refine St.h ?_
      | simp (disch := first | omega | (simp only [lnv]; omega)) only [wlk, ↓get_put', ↓reduceIte, seval, f0, f3, f4, f5]
      | (with_reducible (first | apply cd_split | apply gd_split)) <;> (intro hc; (try simp only [hcn] at hc); (try simp only [hc]); (try simp only [hcl] at hc); try omega))
    refine AL.own (by simp) hf3 fun g4 t4 _ q4 => ?_
    have hf4 := t4.fl hf3
    have p4 := p3.stay t4 fun e => e
    have b4 := b3.grow t4
    repeat' (first
      | refine St.h ?_
      | simp (disch := first | omega | (simp only [lnv]; omega)) only [wlk, ↓get_put', ↓reduceIte, seval, f0, f3, f4, f5]
      | (with_reducible (first | apply cd_split | apply gd_split)) <;> (intro hc; (try simp only [hcn] at hc); (try simp only [hc]); (try simp only [hcl] at hc); try omega))
    refine push_w (x := wkB (k8 A i) i) b4 q4 (by rw [keysL_len]; omega) hf4 fun u5 g5 b5 t5 ho => ?_
    have p5 := p4.stay t5 fun e => hne _ e rfl
    rw [← keysL_succ] at b5
    have st4 : Stay nowhere h g4 := (((st.past' t1 fun q e => by rw [e]; exact Nat.le_refl _).trans t2).trans t3).trans t4
    have st5 := st4.past' t5 fun q hq => by have := own q hq; have := s1.next; omega
    have nx4 : B.val g.next ≤ B.val g4.next := Nat.le_trans (Nat.le_trans t1.next t2.next) (Nat.le_trans t3.next t4.next)
    repeat' (first
      | refine St.h ?_
      | simp (disch := first | omega | (simp only [lnv]; omega)) only [wlk, ↓get_put', ↓reduceIte, seval, f0, f3, f4, f5]
      | (with_reducible (first | apply cd_split | apply gd_split)) <;> (intro hc; (try simp only [hcn] at hc); (try simp only [hc]); (try simp only [hcl] at hc); try omega))
    refine lp_next hI (A.length - (i + 1)) (by omega) ⟨i + 1, u5, rfl, by omega, ?_, ?_, ?_, ?_, p5, b5, fun q hq => ?_, st5, by have := t5.next; omega⟩
    · simp (disch := first | omega | (simp only [lnv]; omega)) only [wlk, ↓get_put', ↓reduceIte, seval, f0]
    · simp (disch := first | omega | (simp only [lnv]; omega)) only [wlk, ↓get_put', ↓reduceIte, seval]
    · simp (disch := first | omega | (simp only [lnv]; omega)) only [wlk, ↓get_put', ↓reduceIte, seval, f4]
    · simp (disch := first | omega | (simp only [lnv]; omega)) only [wlk, ↓get_put', ↓reduceIte, seval]; rfl
    · rcases ho q hq with h3 | h3
      · exact own q h3
      · omega
  obtain rfl : i = A.length := by omega
  have hWs : Ws g u (keysL A A.length) := Ss.buf bf rfl wriC_len (by omega)
  repeat' (first
    | refine St.h ?_
    | simp (disch := first | omega | (simp only [lnv]; omega)) only [wlk, ↓get_put', ↓reduceIte, seval, f0, f3, f4, f5, kl_lnB hAg]
    | (with_reducible (first | apply cd_split | apply gd_split)) <;> (intro hc; (try simp only [hcn] at hc); (try simp only [hc]); (try simp only [hcl] at hc); try omega))
  refine CL.mk (bneat_ok hWs (swn_buf12 bf) (by rw [keysL_len]; omega) (fun w hw => by
    obtain ⟨i, hi, rfl⟩ := List.getElem_of_mem hw
    rw [keysL_len] at hi
    have := keysL_at (K := A) hi
    rw [show (keysL A A.length).getD i default = (keysL A A.length)[i] by simp [List.getD, keysL_len, hi]] at this
    rw [this]; simp [wkB]) hfg) ?_
  rintro r h5 ⟨hr, _, s5⟩
  rw [neat_keys] at hr
  have hf5 := s5.fl hfg
  have hWs5 := hWs.grow s5
  have o5 := og.stay s5 fun e => e
  have st5 := st.trans s5
  have hl8 := isB_len (lasU_is A A.length)
  repeat' (first
    | refine St.h ?_
    | simp (disch := first | omega | (simp only [lnv]; omega)) only [wlk, ↓get_put', ↓reduceIte, seval, f4]
    | (with_reducible (first | apply cd_split | apply gd_split)) <;> (intro hc; (try simp only [hcn] at hc); (try simp only [hc]); (try simp only [hcl] at hc); try omega))
  refine Ok.lp (fun m t g => ∃ (k : Nat), m = 8 - k ∧ k ≤ 8 ∧ get 3 t = u ∧ get 4 t = .p h.next 0 0 8 ∧ get 7 t = r ∧ get 8 t = .i .i64 ((lasU A A.length k).length : Int) ∧ get 9 t = .i .i64 (k : Int) ∧ h5 = g) 8 ?_ ?_
  · simp (disch := first | omega | (simp only [lnv]; omega)) only [wlk, ↓get_put', ↓reduceIte, seval, f3, f4]
    refine ⟨0, by omega, by omega, ?_, ?_, ?_, ?_, ?_, trivial⟩ <;> first | trivial | rfl
  clear f0 f3 f4 f5 hI
  rintro J hJ m t g' ⟨k, rfl, hk, f3, f4, f7, f8, f9, rfl⟩
  have o5r := o5.row
  by_cases hk8 : k < 8
  · have hat := laC_at (K := A) (n := A.length) hk8
    have hlac := laC_len A A.length
    have hln := lastN_le A A.length k
    have hsc := lasU_succ A A.length k
    by_cases h0 : lastN A A.length k = 0
    · rw [if_pos h0, List.append_nil] at hsc
      have hz : ((lastN A A.length k : Int) = 0) = True := eq_true (by omega)
      repeat' (first
        | refine St.h ?_
        | simp (disch := first | omega | (simp only [lnv]; omega)) only [wlk, ↓get_put', ↓reduceIte, seval, f3, f4, f7, f8, f9, o5r.l1, hat, hz, Int.toNat_natCast]
        | (with_reducible (first | apply cd_split | apply gd_split)) <;> (intro hc; (try simp only [hcn] at hc); (try simp only [hc]); (try simp only [hcl] at hc); try omega))
      refine lp_next hJ (8 - (k + 1)) (by omega) ⟨k + 1, rfl, by omega, ?_, ?_, ?_, ?_, ?_, rfl⟩
      · simp (disch := first | omega | (simp only [lnv]; omega)) only [wlk, ↓get_put', ↓reduceIte, seval, f3]
      · simp (disch := first | omega | (simp only [lnv]; omega)) only [wlk, ↓get_put', ↓reduceIte, seval, f4]
      · simp (disch := first | omega | (simp only [lnv]; omega)) only [wlk, ↓get_put', ↓reduceIte, seval, f7]
      · rw [hsc]; simp (disch := first | omega | (simp only [lnv]; omega)) only [wlk, ↓get_put', ↓reduceIte, seval, f8]
      · simp (disch := first | omega | (simp only [lnv]; omega)) only [wlk, ↓get_put', ↓reduceIte, seval]; rfl
    · rw [if_neg h0] at hsc
      have hz : ((lastN A A.length k : Int) = 0) = False := eq_false (by omega)
      obtain ⟨g1, g2⟩ := lasU_split (m := 8) hk8 h0
      have g3 := keysL_at (K := A) (n := A.length) (i := lastN A A.length k - 1) (by omega)
      rw [lastN_key A A.length k h0] at g3
      have ek : (lastN A A.length k : Int) - 1 = ((lastN A A.length k - 1 : Nat) : Int) := by omega
      have hkl := keysL_len A A.length
      repeat' (first
        | refine St.h ?_
        | simp (disch := first | omega | (simp only [lnv]; omega)) only [wlk, ↓get_put', ↓reduceIte, seval, f3, f4, f7, f8, f9, o5r.l1, hat, hz, hr.ln, hr.ix, hr.la, hWs5.ix, hWs5.la, ek, g1, g3, Int.toNat_natCast]
        | (with_reducible (first | apply cd_split | apply gd_split)) <;> (intro hc; (try simp only [hcn] at hc); (try simp only [hc]); (try simp only [hcl] at hc); try omega))
      refine lp_next hJ (8 - (k + 1)) (by omega) ⟨k + 1, rfl, by omega, ?_, ?_, ?_, ?_, ?_, rfl⟩
      · simp (disch := first | omega | (simp only [lnv]; omega)) only [wlk, ↓get_put', ↓reduceIte, seval, f3]
      · simp (disch := first | omega | (simp only [lnv]; omega)) only [wlk, ↓get_put', ↓reduceIte, seval, f4]
      · simp (disch := first | omega | (simp only [lnv]; omega)) only [wlk, ↓get_put', ↓reduceIte, seval, f7]
      · rw [hsc, List.length_append, List.length_singleton]; simp (disch := first | omega | (simp only [lnv]; omega)) only [wlk, ↓get_put', ↓reduceIte, seval, f8]; push_cast; rfl
      · simp (disch := first | omega | (simp only [lnv]; omega)) only [wlk, ↓get_put', ↓reduceIte, seval]; rfl
  · obtain rfl : k = 8 := by omega
    repeat' (first
      | refine St.h ?_
      | simp (disch := first | omega | (simp only [lnv]; omega)) only [wlk, ↓get_put', ↓reduceIte, seval, f3, f4, f7, f8, f9, hr.ln]
      | (with_reducible (first | apply cd_split | apply gd_split)) <;> (intro hc; (try simp only [hcn] at hc); (try simp only [hc]); (try simp only [hcl] at hc); try omega))
    refine CL.stay (bis_ok hr (by omega) hf5) fun h6 s6 => ?_
    have hb := lasU_is A A.length
    repeat' (first
      | refine St.h ?_
      | simp (disch := first | omega | (simp only [lnv]; omega)) only [wlk, ↓get_put', ↓reduceIte, seval, hb]
      | (with_reducible (first | apply cd_split | apply gd_split)) <;> (intro hc; (try simp only [hcn] at hc); (try simp only [hc]); (try simp only [hcl] at hc); try omega))
    subst hQ
    exact ⟨rfl, st5.trans s6⟩
end Go.Proofs.Ythncpgkpkdolfaa

set_option linter.all false
namespace Go.Proofs.Ythncpgkpkdolfaa
open Go Go.Ev
structure Wk where
  v : V
  l : List Wri
instance : Inhabited Wk := ⟨⟨.l0, []⟩⟩
def wkC (b : Wk) : List V := [b.v]
theorem wkC_len (b : Wk) : (wkC b).length = 1 := rfl
structure Wls (h : H) (v : V) (bs : List (List Wri)) (ks : List Wk) : Prop where
  ss : Ss 1 wkC h v ks
  eq : ks.map (·.l) = bs
  es : ∀ k ∈ ks, Ws h k.v k.l ∧ SwN 3 k.v
section
variable {P : Program} {h h' g' : H} {N : Nx} {v : V} {bs : List (List Wri)} {ks : List Wk} {i : Nat}
theorem Wls.len (a : Wls h v bs ks) : ks.length = bs.length := by rw [← a.eq, List.length_map]
theorem Wls.ld (a : Wls h v bs ks) (hi : i < bs.length) : L1 P (lid v) (lg v) (loff v + i) (lfin v) h N = N.go P (ks.getD i default).v h := by
  have := a.ss.ld (P := P) (N := N) (i := i) (d := 0) wkC_len (by rw [a.len]; exact hi) (by omega)
  rwa [Nat.mul_one] at this
theorem Wls.grow (a : Wls h v bs ks) (s : Stay nowhere h h') : Wls h' v bs ks := ⟨a.ss.grow s, a.eq, fun k hk => ⟨(a.es k hk).1.grow s, (a.es k hk).2⟩⟩
theorem Wls.at (a : Wls h v bs ks) (hi : i < bs.length) : Ws h (ks.getD i default).v (bs.getD i []) ∧ SwN 3 (ks.getD i default).v := by
  have hk : i < ks.length := by rw [a.len]; exact hi
  have h1 := a.es (ks.getD i default) (by rw [List.getD_eq_getElem?_getD, List.getElem?_eq_getElem hk]; simp)
  have h2 : bs.getD i [] = (ks.getD i default).l := by rw [← a.eq]; simp [List.getD, List.getElem?_eq_getElem hk]
  rw [h2]; exact h1
end
end Go.Proofs.Ythncpgkpkdolfaa

set_option linter.all false
namespace Go.Ev
open Go Go.RowKit Go.WideShapes Go.ChangeShapes Go.ChangeAt Go.Deep
section
variable {H' : Type} {enc : TypeId × Value → H'} {P : Program}
inductive Kd where
  | i (k : IntKind)
  | s
  | b
def Kd.ok (P : Program) (k : Kd) (t : TypeId) : Prop := match k with
  | .i k => P.underlying t = some (.int k)
  | .s => P.underlying t = some .string
  | .b => P.underlying t = some .bool
def FldOk (P : Program) (l : List Field) : Nat → List Kd → Prop
  | _, [] => True
  | n, k :: ks => (∃ f, l[n]? = some f ∧ f.offset = n ∧ P.cellsOf f.type = 1 ∧ k.ok P f.type) ∧ FldOk P l (n + 1) ks
/-- a struct whose fields are numbers, texts, bools -/
structure FlatF (P : Program) (t : TypeId) (fs : Array Field) (ks : List Kd) : Prop where
  ut : P.underlying t = some (.struct fs)
  sz : P.cellsOf t = ks.length
  fld : FldOk P fs.toList 0 ks
end
end Go.Ev

set_option linter.all false
namespace Go.Proofs.Ythncpgkpkdolfaa
open Go Go.Ev
theorem wf_all8B {S : List Int} (h : ∀ n ∈ S, (Lit.int .u8 n).wf = true) : ∀ n ∈ S, 0 ≤ n ∧ n ≤ 255 := fun n hn => by
  obtain ⟨c, rfl⟩ := u8_byte (h n hn)
  have := c.toNat_lt; omega
theorem batchNeat_l {h : H} {x : V} {A : List Int} (hA : Kl h .u8 x A) (hl1 : A.length ≤ 9223372036854775807) (hw1 : ∀ n ∈ A, (Lit.int .u8 n).wf = true) (hf : B.val h.floor ≤ B.val h.next) : FnOk Try.prog 5 [x] h fun y _ => y = .b true := (batchNeat_ok hA hl1 (wf_all8B hw1) hf).mono fun _ _ e => e.1
end Go.Proofs.Ythncpgkpkdolfaa

namespace Go.Proofs.Ythncpgkpkdolfaa.batchNeat
open Go Go.Ev Go.ChangeShapes Go.WideShapes Go.ChangeAt Go.RowKit Go.ChangeMaps
set_option linter.all false
theorem own : ownKnob Try.prog.godebug = none := by kernel_rfl
theorem laid : laidOutB Try.prog = true := by kernel_rfl
theorem heap_pos {W : World} (h : W.ShapedOpen Try.prog) : 0 < W.heap.size := by
  obtain ⟨o, _, h1, _⟩ := h.2 Try.prog.globals.size (Nat.le_refl _) (of_decide_eq_true (by kernel_rfl))
  exact Nat.lt_of_le_of_lt (Nat.zero_le _) (Array.getElem?_eq_some_iff.1 h1).1
set_option maxRecDepth 100000 in
theorem run {H : Type} {enc : TypeId × Value → H} (W : World) (base : Nat) (args : Array Value) (ds : List (DataW H)) (p : List MemPlace) (hval : ∀ (j : Nat) t v, Try.f5.params[j]? = some t → args[j]? = some v → Value.okWide Try.prog W .any base t v) (hopen : W.ShapedOpen Try.prog)
    (hA : DataW.TrodAll enc Try.prog W 0 (fun _ => true) true Try.f5.params.toList args.toList ds p) : Calls Try.prog 5 args W fun e w' => e = .returned (.bool true) ∧ Below W.heap.size W w' := by
  rw [Try.params5] at hA hval
  obtain ⟨v0, vs0, d0, ds0, p0, q0, hargs, rfl, rfl, h0, r0⟩ := trodAll_cons hA
  obtain ⟨rfl, rfl, rfl⟩ := trodAll_nil r0
  obtain rfl : args = #[v0] := by cases args; simp_all
  obtain ⟨h, s1, s2⟩ := Go.Ev.start W
  have s : Go.Ev.Start W h := ⟨s1, s2⟩
  obtain ⟨x0, y0, z0, rfl⟩ := okWide_slice Try.underlying46 (hval 0 46 v0 rfl rfl)
  obtain ⟨fu0, hfu0⟩ := h0
  obtain ⟨u0, L0, e0, m0, l0, k0⟩ := lk_of s (heap_pos hopen) Try.underlying46 (by kernel_rfl) Try.underlying5 hfu0
  obtain rfl := (List.cons.inj (show [Value.slice x0 y0 z0] = [u0] from e0)).1
  exact calls_true s (vs := [absV W (.slice x0 y0 z0)]) ⟨absV_rel W _, trivial⟩ (batchNeat_l m0 l0 k0 s1.flo)
set_option maxRecDepth 100000 in
theorem lifted (os : Os) (started : os.Started) (H : Type) (enc : TypeId × Value → H) :
    ReturnsInHanded {} Try.checked os 5 .any (Rows.batchNeatSpec.pre6 enc Try.prog Try.f5 Rows.batchNeatRow.domain false) (Rows.batchNeatSpec.post enc Try.prog Try.f5 false true false false) :=
  law_lifted (C := Try.checked) own started (by kernel_rfl) Try.func5
    (ChangeSpec.witness6 (enc := enc) (C := Try.checked) false ⟨#[], #[.slice none 0 0], []⟩ 8 (by kernel_rfl) (by kernel_rfl) (by kernel_rfl) (by kernel_rfl))
    rfl (fun ds hd => by rw [Try.params5] at hd; match ds, hd with | [d1], _ => rfl) laid (by kernel_rfl) (by kernel_rfl) Try.underlying4 (fun W base args ds p hv ho hA => run W base args ds p hv ho hA)
theorem over : Rows.batchNeatRow.holds Try.pinned (OpenSpec.ofChange Rows.batchNeatSpec) :=
  OpenClaim.holds_of_wide 5 Try.f5 rfl rfl rfl rfl rfl rfl rfl ⟨rfl, rfl, rfl, rfl, rfl⟩ rfl rfl rfl rfl rfl (by kernel_rfl) Try.func5 (by kernel_rfl)
    (of_decide_eq_true (by kernel_rfl)) (by unfold Func.isWrapper; first | (rw [if_pos (by decide +kernel)]; kernel_rfl) | (rw [if_neg (by decide +kernel)]; exact ⟨rfl, rfl⟩))
    (fun os started H enc _ => lifted os started H enc)
/-- THE STATEMENT -/
theorem proved : Rows.BatchNeatSaid :=
  over
end Go.Proofs.Ythncpgkpkdolfaa.batchNeat
