/- Texts of ours, without what this claim does not use: EnCp EnCc PlainI EnSi EvL EnQt EnKDealPhantoms. No condition. -/
import Derived.Test.YtiokhkainaodnaaGreatDoorPkDP5
import Derived.Shelf.SlIterI.Nil
import Derived.Shelf.SortM.Plain
import Derived.Shelf.SortM.SortNone
import Derived.Ground.GgzProg
import Derived.Ground.SlgmProg
import Derived.Test.YtiokhkainaodnaaGreatDoorProg
import Derived.ProofKit
import Derived.Test.YtiokhkainaodnaaGreatDoorRows
import Derived.WalkKit
import Derived.OpenShut
import Derived.Deep.DeepHandedRow
set_option maxRecDepth 100000
set_option maxHeartbeats 8000000
set_option linter.all false
namespace Go.Proofs.YtiokhkainaodnaaGreatDoor
open Go Go.Ev
/-- a block just as it was laid -/
structure OwnX (h : H) (id : B) (el : Nat) (xs : List V) : Prop where
  ex : ∃ blk, h.heap.get id = some blk ∧ blk.cur = 0 ∧ blk.min = 0 ∧ blk.fr = 0 ∧ blk.el = el ∧ blk.size = xs.length ∧ ∀ i y, xs[i]? = some y → blk.cells.getN i = some y
  fl : B.val h.floor ≤ B.val id
  lt : B.val id < B.val h.next
theorem CL.mkU {h : H} {P : Program} {f : FuncId} {vs : List V} {m : Nat} {l : List CO} {t : F} {K : F → H → Prop} {Q : V → H → Prop} (a : FnOk P f vs (reFloor h) Q) (k : ∀ v h', Q v h' → DO P l (put m v t) (unFloor h h') K) : CL P f vs (reFloor h) (.u m l t h K) := ⟨_, a, fun v h' hq => by rw [go_u]; exact k v h' hq⟩
theorem stay_past {h h1 h2 : H} {p q : B → Prop} (a : Stay p h h1) (b : Stay q h1 h2) (hq : ∀ i, q i → p i ∨ B.val h.next ≤ B.val i) : Stay p h h2 :=
  ⟨b.floor.trans a.floor, Nat.le_trans a.next b.next, fun i hi hp => (b.get i (Nat.lt_of_lt_of_le hi a.next) fun e => (hq i e).elim hp fun h => absurd hi (Nat.not_lt.2 h)).trans (a.get i hi hp)⟩
abbrev Cs := List (List UInt8 × V × List UInt8)
def vCs (X : Cs) : En := X.map fun z => (z.1, z.2.1)
def bCs (X : Cs) : List (List UInt8 × List UInt8) := X.map fun z => (z.1, z.2.2)
/-- an act of which nothing is gone -/
structure AC where
  kind : Int
  name : List UInt8
  old : List UInt8
  front : Int
  had : Bool
instance : Inhabited AC := ⟨⟨0, [], [], 0, false⟩⟩
def actC (a : AC) : List V := [.i .i64 a.kind, sv a.name, sv a.old, .i .i64 a.front, .l0, .b a.had]
section
variable {h h' : H} {N : Nx} {id s : B} {el : Nat} {xs : List V} {v mp lo : V} {bs : List UInt8} {X : Cs} {rm : Int} {U : List AC}
theorem OwnX.own (o : OwnX h id el xs) : Ev.Own h id xs := by
  obtain ⟨⟨blk, h1, h2, h3, h4, h5, h6, h7⟩, f, l⟩ := o
  exact ⟨blk, h1, h2, h3, h4, f, l, h7⟩
theorem OwnX.stay {p : B → Prop} (o : OwnX h id el xs) (s : Stay p h h') (hp : ¬ p id) : OwnX h' id el xs := by
  obtain ⟨⟨blk, h1, h2⟩, f, l⟩ := o
  exact ⟨⟨blk, (s.get id l hp).trans h1, h2⟩, by rw [s.floor]; exact f, Nat.lt_of_lt_of_le l s.next⟩
theorem OwnX.un {h0 : H} (o : OwnX h' id el xs) (e : h'.floor = h0.next) (hf : B.val h0.floor ≤ B.val h0.next) : OwnX (unFloor h0 h') id el xs := by
  obtain ⟨o1, o2, o3⟩ := o
  rw [e] at o2
  cases h0; cases h'
  exact ⟨o1, Nat.le_trans hf o2, o3⟩
theorem AP.empty {P : Program} {size cnt : Nat} {x : V} {vs : List V} {g off fin : Nat} (hx : ∀ k : Nat → List V → Bool, newCells size x h k = k cnt vs) (hf : B.val h.floor ≤ B.val h.next) (hn : vs.length = cnt * size) (hc : 1 ≤ cnt) (hl : cnt ≤ 1048576) (hl2 : vs.length < 2 ^ 38)
    (k : ∀ h', Stay nowhere h h' → B.val h'.next = B.val h.next + 1 → OwnX h' h.next el vs → N.go P (.l h.next 0 0 cnt (cnt * size) none) h') : AP P el size (.l id g off 0 fin (some 0)) x h N := by
  obtain ⟨h', a1, a2, a3, blk, b1, b2, b3, b4, b5, b6, b7⟩ := alloc_new el vs h hl2
  obtain ⟨m, rfl⟩ : ∃ m, cnt = m + 1 := ⟨cnt - 1, by omega⟩
  have hble : Nat.ble (Nat.add 0 (m + 1)) 1048576 = true := by rw [Nat.ble_eq]; show 0 + (m + 1) ≤ _; omega
  have hno : Nat.ble (Nat.add 0 (m + 1)) 0 = false := by
    cases hx : Nat.ble (Nat.add 0 (m + 1)) 0 with
    | false => rfl
    | true => have := Nat.le_of_ble_eq_true hx; have h2 : 0 + (m + 1) ≤ 0 := this; omega
  refine hm_of (v := .l h.next 0 0 (m + 1) ((m + 1) * size) none) (h' := h') (fun q => ?_) (k h' a2 a3 ⟨⟨blk, b1, b3, b2, b6, b5, b4, b7⟩, by rw [a2.floor]; exact hf, by omega⟩)
  rw [hx]
  show boolK (flagB 0) (fun _ => appGrow (selB (Nat.ble 1 0) (Nat.beq 0 (Nat.add 18446744073709551615 size))) el id g off 0 fin size (m + 1) vs h q) (fun _ => boolK (Nat.ble (Nat.add 0 (m + 1)) 0) (fun _ => appIn id g off 0 fin 0 size (m + 1) vs h q) fun _ => appOut el id g off 0 fin size (m + 1) vs h q) = _
  rw [flagB_of (by omega), boolK_false, hno, boolK_false]
  unfold appOut
  rw [hble, ifK_true]
  show alloc el (app [] vs) h (fun id h => fN (Nat.add 0 (m + 1)) fun l' => fN (Nat.mul l' size) fun fin' => q (.l id 0 0 l' fin' none) h) = _
  rw [app_eq, List.nil_append, a1, fN_eq, fN_eq]
  show q (.l h.next 0 0 (0 + (m + 1)) ((0 + (m + 1)) * size) none) h' = _
  rw [Nat.zero_add]
theorem AP.empty0 {P : Program} {size : Nat} {x : V} {g off fin : Nat} (hx : ∀ k : Nat → List V → Bool, newCells size x h k = k 0 []) (k : N.go P (.l id g off 0 fin (some 0)) h) : AP P el size (.l id g off 0 fin (some 0)) x h N :=
  hm_of (v := .l id g off 0 fin (some 0)) (h' := h) (fun q => by rw [hx]; rfl) k
/-- a file that is read; it was there ahead of n0 -/
def FileR (n0 : B) (h : H) (v : V) (bs : List UInt8) : Prop :=
  (bs = [] ∧ ∃ id g off fin cap, v = .l id g off 0 fin cap) ∨ ∃ q g off fin cap, v = .l q g off bs.length fin cap ∧ off + bs.length ≤ fin ∧ B.val q < B.val n0 ∧ Row h q g off (bs.map bv)
variable {n0 : B}
theorem FileR.re (a : FileR n0 h v bs) : FileR n0 (reFloor h) v bs := by cases h; exact a
theorem FileR.stay {p : B → Prop} (a : FileR n0 h v bs) (s : Stay p h h') (hp : ∀ q, B.val q < B.val n0 → ¬ p q) (hn : B.val n0 ≤ B.val h.next) : FileR n0 h' v bs := by
  rcases a with h1 | ⟨q, g, off, fin, cap, rfl, hf, h2, r⟩
  · exact .inl h1
  · exact .inr ⟨q, g, off, fin, cap, rfl, hf, h2, r.stay s (Nat.lt_of_lt_of_le h2 hn) (hp q h2)⟩
theorem FileR.new (a : FileR n0 h v bs) (k : Nat → List V → Bool) : newCells 1 v h k = k bs.length (bs.map bv) := by
  rcases a with ⟨rfl, id, g, off, fin, cap, rfl⟩ | ⟨q, g, off, fin, cap, rfl, hf, h2, r⟩
  · rfl
  · cases bs with
    | nil => rfl
    | cons c l =>
      show loadN h q g off fin (Nat.mul (l.length + 1) 1) (fun vs => k (l.length + 1) vs) = _
      rw [show Nat.mul (l.length + 1) 1 = ((c :: l).map bv).length by simp, loadN_row r rfl (by simp) (by simpa using hf)]; rfl
theorem FileR.isl (a : FileR n0 h v bs) : ∃ id g off fin cap, v = .l id g off bs.length fin cap := by
  rcases a with ⟨rfl, id, g, off, fin, cap, rfl⟩ | ⟨q, g, off, fin, cap, rfl, _⟩
  · exact ⟨_, _, _, _, _, rfl⟩
  · exact ⟨_, _, _, _, _, rfl⟩
/-- a file that was laid anew -/
def FileX (h : H) (v : V) (bs : List UInt8) : Prop :=
  (bs = [] ∧ ∃ id, v = .l id 0 0 0 0 (some 0)) ∨ (bs ≠ [] ∧ ∃ q, v = .l q 0 0 bs.length bs.length none ∧ OwnX h q 5 (bs.map bv))
/-- in which block its bytes lie -/
def qOf (v : V) (q : B) : Prop := ∃ n fin, v = .l q 0 0 n fin none
theorem FileX.un {h0 : H} (o : FileX h' v bs) (e : h'.floor = h0.next) (hf : B.val h0.floor ≤ B.val h0.next) : FileX (unFloor h0 h') v bs :=
  o.imp (fun h => h) fun ⟨hn, q, hq, o⟩ => ⟨hn, q, hq, o.un e hf⟩
theorem FileX.stay {p : B → Prop} (a : FileX h v bs) (s : Stay p h h') (hp : ∀ q, qOf v q → ¬ p q) : FileX h' v bs := by
  rcases a with h1 | ⟨hn, q, rfl, o⟩
  · exact .inl h1
  · exact .inr ⟨hn, q, rfl, o.stay s (hp q ⟨_, _, rfl⟩)⟩
theorem FileX.lt {q : B} (a : FileX h v bs) (hq : qOf v q) : B.val q < B.val h.next := by
  obtain ⟨n, fin, e⟩ := hq
  rcases a with ⟨_, id, rfl⟩ | ⟨_, q', rfl, o⟩
  · cases e
  · cases e; exact o.lt
theorem cl_file (a : FileR n0 h v bs) (hn0 : B.val n0 ≤ B.val h.next) (hl : bs.length ≤ 1000000) (hf : B.val h.floor ≤ B.val h.next) : FnOk Tryz.prog 121 [v] h fun y h' => FileX h' y bs ∧ Stay nowhere h h' ∧ ∀ q, isOf y q → B.val h.next ≤ B.val q := by
  obtain ⟨id, g, off, fin, cap, hv⟩ := a.isl
  refine fn_go c121 (by intro hb; cases hb) (by simp) (by simp) fun Q hQ => ?_
  simp only [slotsF, Nat.reduceAdd]
  rw [hv]
  repeat' (first
    | refine St.h ?_
    | simp (disch := first | omega | (simp only [lnv]; omega)) only [wlk, mwk, ↓get_put', ↓reduceIte, seval]
    | (with_reducible (first | apply cd_split | apply gd_split)) <;> (intro hc; (try simp only [hcn] at hc); (try simp only [hc]); (try simp only [hcl] at hc); try omega))
  refine AL.own (by simp) hf fun h1 s1 n1 o1 => ?_
  have a1 := a.stay s1 (fun _ _ e => e) hn0
  rw [hv] at a1
  have hf1 := s1.fl hf
  repeat' (first
    | refine St.h ?_
    | simp (disch := first | omega | (simp only [lnv]; omega)) only [wlk, mwk, ↓get_put', ↓reduceIte, seval]
    | (with_reducible (first | apply cd_split | apply gd_split)) <;> (intro hc; (try simp only [hcn] at hc); (try simp only [hc]); (try simp only [hcl] at hc); try omega))
  cases hb : bs with
  | nil =>
    subst hb
    refine AP.empty0 (fun k => a1.new k) ?_
    repeat' (first
      | refine St.h ?_
      | simp (disch := first | omega | (simp only [lnv]; omega)) only [wlk, mwk, ↓get_put', ↓reduceIte, seval]
      | (with_reducible (first | apply cd_split | apply gd_split)) <;> (intro hc; (try simp only [hcn] at hc); (try simp only [hc]); (try simp only [hcl] at hc); try omega))
    subst hQ
    exact ⟨.inl ⟨rfl, _, rfl⟩, s1, fun q ⟨_, _, _, _, _, e⟩ => by cases e; exact Nat.le_refl _⟩
  | cons c l =>
    rw [← hb]
    have hb1 : 1 ≤ bs.length := by rw [hb]; simp
    refine AP.empty (fun k => a1.new k) hf1 (by simp) hb1 (by omega) (by simp; omega) fun h2 s2 n2 o2 => ?_
    repeat' (first
      | refine St.h ?_
      | simp (disch := first | omega | (simp only [lnv]; omega)) only [wlk, mwk, ↓get_put', ↓reduceIte, seval]
      | (with_reducible (first | apply cd_split | apply gd_split)) <;> (intro hc; (try simp only [hcn] at hc); (try simp only [hc]); (try simp only [hcl] at hc); try omega))
    subst hQ
    refine ⟨.inr ⟨by intro e; rw [e] at hb1; simp at hb1, h1.next, ?_, o2⟩, s1.trans s2, fun q ⟨_, _, _, _, _, e⟩ => by cases e; omega⟩
    first | rfl | rw [Nat.mul_one]
theorem cl_nil : FnOk Tryz.prog 121 [.l0] h fun y h' => y = .l0 ∧ h' = h := by
  refine fn_go c121 (by intro hb; cases hb) (by simp) (by simp) fun Q hQ => ?_
  simp only [slotsF, Nat.reduceAdd]
  repeat' (first
    | refine St.h ?_
    | simp (disch := first | omega | (simp only [lnv]; omega)) only [wlk, mwk, ↓get_put', ↓reduceIte, seval]
    | (with_reducible (first | apply cd_split | apply gd_split)) <;> (intro hc; (try simp only [hcn] at hc); (try simp only [hc]); (try simp only [hcl] at hc); try omega))
  subst hQ
  exact ⟨rfl, rfl⟩
theorem actC_len (a : AC) : (actC a).length = 6 := rfl
theorem actC_one (a : AC) : allOne (actC a) = true := rfl
theorem cl_acts {U : List AC} (a : Ss 6 actC h v U) (hn : v ≠ .l0 → U ≠ []) (hU : U.length ≤ 10000) (hf : B.val h.floor ≤ B.val h.next) : FnOk Tryz.prog 120 [v] h fun y h' => Stay nowhere h h' ∧ ((U = [] ∧ y = .l0) ∨ (U ≠ [] ∧ ∃ q, y = .l q 0 0 U.length (U.length * 6) none ∧ OwnX h' q 201 (U.flatMap actC) ∧ B.val h.next ≤ B.val q)) := by
  refine fn_go c120 (by intro hb; cases hb) (by simp) (by simp) fun Q hQ => ?_
  simp only [slotsF, Nat.reduceAdd]
  by_cases hv : v = .l0
  · subst hv
    have : U = [] := by
      rcases a with ⟨_, e⟩ | ⟨id, g, off, fin, cap, e, _⟩
      · exact e
      · cases e
    subst this
    repeat' (first
      | refine St.h ?_
      | simp (disch := first | omega | (simp only [lnv]; omega)) only [wlk, mwk, ↓get_put', ↓reduceIte, seval]
      | (with_reducible (first | apply cd_split | apply gd_split)) <;> (intro hc; (try simp only [hcn] at hc); (try simp only [hc]); (try simp only [hcl] at hc); try omega))
    subst hQ
    exact ⟨Stay.refl _ _, .inl ⟨rfl, rfl⟩⟩
  · have hU0 := hn hv
    obtain ⟨id, g, off, fin, cap, hvv⟩ : ∃ id g off fin cap, v = .l id g off U.length fin cap := by
      rcases a with ⟨e, _⟩ | ⟨id, g, off, fin, cap, e, _⟩
      · exact absurd e hv
      · exact ⟨_, _, _, _, _, e⟩
    rw [hvv]
    repeat' (first
      | refine St.h ?_
      | simp (disch := first | omega | (simp only [lnv]; omega)) only [wlk, mwk, ↓get_put', ↓reduceIte, seval]
      | (with_reducible (first | apply cd_split | apply gd_split)) <;> (intro hc; (try simp only [hcn] at hc); (try simp only [hc]); (try simp only [hcl] at hc); try omega))
    refine AL.own (by simp) hf fun h1 s1 n1 o1 => ?_
    have a1 := a.grow s1
    rw [hvv] at a1
    have hf1 := s1.fl hf
    repeat' (first
      | refine St.h ?_
      | simp (disch := first | omega | (simp only [lnv]; omega)) only [wlk, mwk, ↓get_put', ↓reduceIte, seval]
      | (with_reducible (first | apply cd_split | apply gd_split)) <;> (intro hc; (try simp only [hcn] at hc); (try simp only [hc]); (try simp only [hcl] at hc); try omega))
    have hlen := fm_len actC_len U
    have hU1 : 1 ≤ U.length := by
      cases U with
      | nil => exact absurd rfl hU0
      | cons a l => simp
    refine AP.empty (fun k => new_ss a1 actC_len (by omega) k) hf1 hlen hU1 (by omega) (by rw [hlen]; omega) fun h2 s2 n2 o2 => ?_
    repeat' (first
      | refine St.h ?_
      | simp (disch := first | omega | (simp only [lnv]; omega)) only [wlk, mwk, ↓get_put', ↓reduceIte, seval]
      | (with_reducible (first | apply cd_split | apply gd_split)) <;> (intro hc; (try simp only [hcn] at hc); (try simp only [hc]); (try simp only [hcl] at hc); try omega))
    subst hQ
    exact ⟨s1.trans s2, .inr ⟨hU0, h1.next, rfl, o2, by omega⟩⟩
theorem ss_re' {α : Type} {n : Nat} {c : α → List V} {L : List α} (a : Ss n c h v L) : Ss n c (reFloor h) v L := by cases h; exact a
/-- what a copy's loose acts are -/
def LooN (h' : H) (v : V) (U : List AC) (n0 : B) : Prop := (U = [] ∧ v = .l0) ∨ (U ≠ [] ∧ ∃ q, v = .l q 0 0 U.length (U.length * 6) none ∧ OwnX h' q 201 (U.flatMap actC) ∧ B.val n0 ≤ B.val q)
theorem LooN.un {h0 : H} {n0 : B} {U : List AC} (o : LooN h' v U n0) (e : h'.floor = h0.next) (hf : B.val h0.floor ≤ B.val h0.next) : LooN (unFloor h0 h') v U n0 :=
  o.imp (fun h => h) fun ⟨hn, q, hq, o, l⟩ => ⟨hn, q, hq, o.un e hf, l⟩
theorem LooN.stay {n0 : B} {p : B → Prop} {U : List AC} (o : LooN h v U n0) (s : Stay p h h') (hp : ∀ q, isOf v q → ¬ p q) : LooN h' v U n0 :=
  o.imp (fun h => h) fun ⟨hn, q, hq, o, l⟩ => ⟨hn, q, hq, o.stay s (hp q (by rw [hq]; exact ⟨_, _, _, _, _, rfl⟩)), l⟩
theorem LooN.sl {n0 : B} {U : List AC} (o : LooN h v U n0) : IsSl v := o.elim (fun e => .inl e.2) fun ⟨_, q, e, _⟩ => .inr ⟨_, _, _, _, _, _, e⟩
theorem IsSl.fp {P : Program} {h : H} {N : Nx} {off : Nat} {v : V} {ps : List Pt} {t : F} {z : List V} {e : Option (Nat × Nat)} (a : IsSl v) (hz : off + 1 ≤ z.length) : FP P off 1 v ps t z e h N = FL P ps t (z.take off ++ (v :: z.drop (off + 1))) e h N := by
  rcases a with rfl | ⟨id, g, o, len, fin, cap, rfl⟩
  · rw [fp_l0, if_pos hz]
  · rw [fp_l, if_pos hz]
theorem store_ownX {j fin : Nat} {y : V} (o : OwnX h id el xs) (hj : j < fin) (hfit : j < 2 ^ 37) (h1 : oneV y = true) : ∃ h', (∀ k, Ev.store h id 0 j fin [y] k = k h') ∧ OwnX h' id el (xs.set j y) ∧ Stay (fun i => i = id) h h' := by
  obtain ⟨⟨blk, a1, a2, a3, a4, a8, a9, a7⟩, a5, a6⟩ := o
  obtain ⟨next, floor, heap⟩ := h
  obtain ⟨cur, min, sz, cells, bel, fr⟩ := blk
  simp only at a2 a3 a4 a7 a8 a9
  subst a2; subst a3; subst a4; subst a8; subst a9
  obtain ⟨tr, t1, t2, t3⟩ := setList_fine [y] j cells (by simp; omega)
  obtain ⟨hp, s1, s2, s3⟩ := setK_ok id (⟨0, 0, xs.length, tr, bel, 0⟩ : Blk) heap
  have e1 : B.geB floor id = true := by cases floor <;> first | rfl | (show Nat.ble _ _ = true; rw [Nat.ble_eq]; exact a5)
  have e2 : Nat.ble (Nat.add j 1) fin = true := by rw [Nat.ble_eq]; exact hj
  have e3 : allOne [y] = true := by show Bool.rec false true (oneV y) = true; rw [h1]
  have e4 : frOk 0 j = true := rfl
  have e5 : Nat.beq 0 0 = true := rfl
  have e6 : Nat.ble 0 0 = true := rfl
  have a1' : heap.get id = some ⟨0, 0, xs.length, cells, bel, 0⟩ := a1
  refine ⟨⟨next, floor, hp⟩, fun k => ?_, ⟨⟨_, s2, rfl, rfl, rfl, rfl, by rw [List.length_set], fun i z hz => ?_⟩, a5, a6⟩, ⟨rfl, Nat.le_refl _, fun i _ hi => s3 i hi⟩⟩
  · simp only [Ev.store, hK_mk, a1', optK_some, blkK_mk, List.length_singleton, e5, e6, e1, e2, e3, e4, ifK_true]
    rw [t1, s1]
  · show tr.getN i = some z
    rw [List.getElem?_set] at hz
    by_cases hij : j = i
    · subst hij
      rw [if_pos rfl] at hz
      split at hz
      · have := t2 0 y rfl
        rw [Nat.add_zero] at this
        rw [this]; exact hz
      · cases hz
    · rw [if_neg hij] at hz
      rw [t3 i (by simp; omega)]
      exact a7 i z hz
theorem ST.ownX {P : Program} {j fin : Nat} {x y : V} (o : OwnX h id el xs) (hc : cells x = [y]) (h1 : oneV y = true) (hj : j < fin) (hfit : j < 2 ^ 37) (k : ∀ h', OwnX h' id el (xs.set j y) → Stay (fun i => i = id) h h' → N.go P (.tu []) h') : ST P 1 (.p id 0 j fin) x h N := by
  obtain ⟨h', a1, a2, a3⟩ := store_ownX o hj hfit h1
  refine hm_of (v := .tu []) (h' := h') (fun k => ?_) (k h' a2 a3)
  show ifK (Nat.beq (cells x).length 1) (fun _ => Ev.store h id 0 j fin (cells x) fun h => k (.tu []) h) = _
  rw [hc]
  show Ev.store h id 0 j fin [y] (fun h => k (.tu []) h) = _
  rw [a1]
/-- a shelf that is read; it was there ahead of n0 -/
structure SrcR (n0 : B) (h : H) (s : B) (mp lo : V) (X : Cs) (U : List AC) (rm : Int) : Prop where
  row : Row h s 0 0 [.i .i64 rm, mp, lo]
  map : (mp = .m0 ∧ X = []) ∨ ∃ id, mp = .m id ∧ MapF h id (vCs X) ∧ B.val id < B.val n0
  acts : Ss 6 actC h lo U
  nonil : lo ≠ .l0 → U ≠ []
  fil : ∀ z ∈ X, FileR n0 h z.2.1 z.2.2
  lt : B.val s < B.val n0
  lol : ∀ q, isOf lo q → B.val q < B.val n0
theorem _root_.Go.Ev.MapF.b {h : H} {id : B} {E : En} (m : MapF h id E) (hf : B.val h.floor ≤ B.val h.next) : MapB h id E := ⟨m.blk, Nat.lt_of_lt_of_le m.lo hf, m.nod⟩
theorem len_Cs (X : Cs) : (vCs X).length = X.length := by unfold vCs; rw [List.length_map]
theorem SrcR.ln (S : SrcR n0 h s mp lo X U rm) (hf : B.val h.floor ≤ B.val h.next) : MLn Tryz.prog mp (reFloor h) N = N.go Tryz.prog (.i .i64 (X.length : Int)) (reFloor h) := by
  rcases S.map with ⟨rfl, rfl⟩ | ⟨id, rfl, m, _⟩
  · exact mln_nil
  · rw [(m.b hf).re.ln, len_Cs]
theorem SrcR.stay {p : B → Prop} (S : SrcR n0 h s mp lo X U rm) (t : Stay p h h') (hp : ∀ q, B.val q < B.val n0 → ¬ p q) (hn : B.val n0 ≤ B.val h.next) : SrcR n0 h' s mp lo X U rm :=
  ⟨S.row.stay t (Nat.lt_of_lt_of_le S.lt hn) (hp s S.lt), S.map.imp_right fun ⟨i2, e, m, l⟩ => ⟨i2, e, by
    obtain ⟨b, h1, h2⟩ := m.blk
    exact ⟨⟨b, (t.get i2 (Nat.lt_of_lt_of_le l hn) (hp i2 l)).trans h1, h2⟩, by rw [t.floor]; exact m.lo, m.nod⟩, l⟩, S.acts.stay t fun q hq => hp q (S.lol q hq), S.nonil, fun f hf => (S.fil f hf).stay t hp hn, S.lt, S.lol⟩
theorem SrcR.grow (S : SrcR n0 h s mp lo X U rm) (t : Stay nowhere h h') (hn : B.val n0 ≤ B.val h.next) : SrcR n0 h' s mp lo X U rm := S.stay t (fun _ _ e => e) hn
theorem mapC_un {h0 : H} {E : En} (o : MapC h' id E) (e : h'.floor = h0.next) (hf : B.val h0.floor ≤ B.val h0.next) : MapC (unFloor h0 h') id E := by
  obtain ⟨o1, o2, o3, o4⟩ := o
  rw [e] at o2
  cases h0; cases h'
  exact ⟨o1, Nat.le_trans hf o2, o3, o4⟩
theorem fp_m {P : Program} {ps : List Pt} {t : F} {z : List V} {e : Option (Nat × Nat)} {off : Nat} : FP P off 1 (.m id) ps t z e h N = if off + 1 ≤ z.length then FL P ps t (z.take off ++ (.m id :: z.drop (off + 1))) e h N else FPJ P off 1 (.m id) ps t z e h N := fp_at (cs := [.m id]) rfl rfl rfl
theorem AL.ownX {P : Program} {cs : List V} {mk : B → V} (hl : cs.length < 2 ^ 38) (hf : B.val h.floor ≤ B.val h.next)
    (k : ∀ h', Stay nowhere h h' → B.val h'.next = B.val h.next + 1 → OwnX h' h.next el cs → N.go P (mk h.next) h') : AL P el cs mk h N := by
  obtain ⟨h', a1, a2, a3, blk, b1, b2, b3, b4, b5, b6, b7⟩ := alloc_new el cs h hl
  exact hm_of (fun k => a1 _) (k h' a2 a3 ⟨⟨blk, b1, b3, b2, b6, b5, b4, b7⟩, by rw [a2.floor]; exact hf, by omega⟩)
/-- files in blocks of their own -/
def apa (a b : List UInt8 × V × List UInt8) : Prop := ∀ q, qOf a.2.1 q → qOf b.2.1 q → False
/-- a copy, all of it laid anew, from n0 on -/
structure CopyX (n0 : B) (g : H) (c cm : B) (lo' : V) (Z : Cs) (U : List AC) (rm : Int) : Prop where
  own : OwnX g c 115 [.i .i64 rm, .m cm, lo']
  loo : LooN g lo' U n0
  map : MapC g cm (vCs Z)
  fil : ∀ z ∈ Z, FileX g z.2.1 z.2.2
  fp : Z.Pairwise apa
  cc : c ≠ cm
  ls : ¬ isOf lo' c
  lm : ¬ isOf lo' cm
  fs : ∀ z ∈ Z, ∀ q, qOf z.2.1 q → B.val n0 ≤ B.val q ∧ q ≠ c ∧ q ≠ cm ∧ ¬ isOf lo' q
  nc : B.val n0 ≤ B.val c
  nm : B.val n0 ≤ B.val cm
def copyK (n0 : B) (X : Cs) (U : List AC) (rm : Int) (y : V) (g : H) : Prop := ∃ c cm lo' Z, y = .p c 0 0 3 ∧ CopyX n0 g c cm lo' Z U rm ∧ (bCs Z).Perm (bCs X)
theorem keys_nam (X : Cs) : keysE (vCs X) = X.map (·.1) := by
  unfold keysE vCs; rw [List.map_map]; rfl
theorem nam_inj : ∀ {X : Cs}, (X.map (·.1)).Nodup → ∀ {x y : List UInt8 × V × List UInt8}, x ∈ X → y ∈ X → x.1 = y.1 → x = y
  | [], _, x, y, hx, _, _ => by cases hx
  | z :: X, hn, x, y, hx, hy, e => by
    have hn : (z.1 :: X.map (·.1)).Nodup := hn
    rw [List.nodup_cons] at hn
    have mem : ∀ {w : List UInt8 × V × List UInt8}, w ∈ X → w.1 ∈ X.map (·.1) := fun {w} hw => List.mem_map.2 ⟨w, hw, rfl⟩
    rcases List.mem_cons.1 hx with h1 | h1 <;> rcases List.mem_cons.1 hy with h2 | h2
    · rw [h1, h2]
    · exact absurd (mem h2) (by rw [← e, h1]; exact hn.1)
    · exact absurd (mem h1) (by rw [e, h2]; exact hn.1)
    · exact nam_inj hn.2 h1 h2 e
theorem nod_of_nam {X : Cs} (h : (X.map (·.1)).Nodup) : X.Nodup := by
  induction X with
  | nil => exact .nil
  | cons z X ih =>
    have h : (z.1 :: X.map (·.1)).Nodup := h
    rw [List.nodup_cons] at h
    exact List.nodup_cons.2 ⟨fun e => h.1 (List.mem_map.2 ⟨z, e, rfl⟩), ih h.2⟩
theorem all_perm {X Y : Cs} (hn : (X.map (·.1)).Nodup) (hy : ∀ y ∈ Y, y ∈ X) (hv : (keysE (vCs Y)).Nodup) (ha : ∀ p ∈ vCs X, p ∈ vCs Y) : Y.Perm X := by
  haveI : DecidableEq (List UInt8 × V × List UInt8) := fun a b => Classical.propDecidable _
  rw [keys_nam] at hv
  refine (List.perm_ext_iff_of_nodup (nod_of_nam hv) (nod_of_nam hn)).2 fun x => ⟨hy x, fun hx => ?_⟩
  obtain ⟨y, h1, h2⟩ := List.mem_map.1 (ha (x.1, x.2.1) (List.mem_map.2 ⟨x, hx, rfl⟩))
  have : y = x := nam_inj hn (hy y h1) hx (Prod.mk.inj h2).1
  rw [← this]; exact h1
theorem acts_same {L : List AC} {i : Nat} (hi : i < L.length) : (L.flatMap actC).set (i * 6 + 4) .l0 = L.flatMap actC := by
  have h1 := fm_at (c := actC) actC_len hi
  have h2 := fm_len (c := actC) actC_len L
  refine List.ext_getElem? fun j => ?_
  rw [List.getElem?_set]
  by_cases hj : i * 6 + 4 = j
  · rw [if_pos hj, if_pos (by rw [h2]; omega)]
    have h3 : (((L.flatMap actC).drop (i * 6)).take 6)[4]? = some V.l0 := by rw [h1]; rfl
    rw [List.getElem?_take_of_lt (by omega), List.getElem?_drop, hj] at h3
    exact h3.symm
  · rw [if_neg hj]
theorem copy_tail {t : F} {g : H} {c cm : B} {lo' : V} {Z : Cs} {Q : V → H → Prop} (hQ : Q = copyK n0 X U rm) (f3 : get 3 t = .p c 0 0 3) (C : CopyX n0 g c cm lo' Z U rm) (hper : (bCs Z).Perm (bCs X)) (hU : U.length ≤ 10000) (hf : B.val g.floor ≤ B.val g.next) : Ok Tryz.prog 64 s50_14 t g (FnK [Rs.tmp (slOf 2)] Q) := by
  rcases C.loo with ⟨hU0, hlo⟩ | ⟨hU0, q, hlo, oq, nq⟩
  · subst hlo
    repeat' (first
      | refine St.h ?_
      | simp (disch := first | omega | (simp only [lnv]; omega)) only [wlk, mwk, ↓get_put', ↓reduceIte, seval, f3, C.own.own.row.l1]
      | (with_reducible (first | apply cd_split | apply gd_split)) <;> (intro hc; (try simp only [hcn] at hc); (try simp only [hc]); (try simp only [hcl] at hc); try omega))
    refine Ok.lp (fun m t g1 => m = 0 ∧ g = g1 ∧ get 3 t = .p c 0 0 3 ∧ get 46 t = .i .i64 0 ∧ get 47 t = .i .i64 0) 0 ?_ ?_
    · simp (disch := first | omega | (simp only [lnv]; omega)) only [wlk, mwk, ↓get_put', ↓reduceIte, seval, f3]
    rintro I hI m t g1 ⟨rfl, rfl, f3, f46, f47⟩
    repeat' (first
      | refine St.h ?_
      | simp (disch := first | omega | (simp only [lnv]; omega)) only [wlk, mwk, ↓get_put', ↓reduceIte, seval, f3, f46, f47]
      | (with_reducible (first | apply cd_split | apply gd_split)) <;> (intro hc; (try simp only [hcn] at hc); (try simp only [hc]); (try simp only [hcl] at hc); try omega))
    subst hQ
    exact ⟨c, cm, .l0, Z, rfl, C, hper⟩
  subst hlo
  have hns : ∀ {id : B}, isOf (.l q 0 0 U.length (U.length * 6) none) id → id = q := fun ⟨_, _, _, _, _, e⟩ => by cases e; rfl
  have isq : isOf (.l q 0 0 U.length (U.length * 6) none) q := ⟨_, _, _, _, _, rfl⟩
  have qc : q ≠ c := fun e => C.ls (by rw [← e]; exact isq)
  have qcm : q ≠ cm := fun e => C.lm (by rw [← e]; exact isq)
  clear oq
  repeat' (first
    | refine St.h ?_
    | simp (disch := first | omega | (simp only [lnv]; omega)) only [wlk, mwk, ↓get_put', ↓reduceIte, seval, f3, C.own.own.row.l1]
    | (with_reducible (first | apply cd_split | apply gd_split)) <;> (intro hc; (try simp only [hcn] at hc); (try simp only [hc]); (try simp only [hcl] at hc); try omega))
  refine Ok.lp (fun mm t g1 => ∃ (i : Nat), mm = U.length - i ∧ i ≤ U.length ∧ get 3 t = .p c 0 0 3 ∧ get 45 t = .l q 0 0 U.length (U.length * 6) none ∧ get 46 t = .i .i64 (U.length : Int) ∧ get 47 t = .i .i64 (i : Int) ∧
    CopyX n0 g1 c cm (.l q 0 0 U.length (U.length * 6) none) Z U rm ∧ B.val g1.floor ≤ B.val g1.next) U.length ?_ ?_
  · simp (disch := first | omega | (simp only [lnv]; omega)) only [wlk, mwk, ↓get_put', ↓reduceIte, seval, f3]
    exact ⟨0, by omega, by omega, trivial, trivial, trivial, rfl, C, hf⟩
  clear C hf f3
  rintro I hI mm t g1 ⟨i, rfl, hi, f3, f45, f46, f47, C, hf⟩
  by_cases hil : i < U.length
  case neg =>
    obtain rfl : i = U.length := by omega
    repeat' (first
      | refine St.h ?_
      | simp (disch := first | omega | (simp only [lnv]; omega)) only [wlk, mwk, ↓get_put', ↓reduceIte, seval, f3, f45, f46, f47]
      | (with_reducible (first | apply cd_split | apply gd_split)) <;> (intro hc; (try simp only [hcn] at hc); (try simp only [hc]); (try simp only [hcl] at hc); try omega))
    subst hQ
    exact ⟨c, cm, _, Z, rfl, C, hper⟩
  obtain ⟨q', oq, hq'⟩ : ∃ q', OwnX g1 q' 201 (U.flatMap actC) ∧ q' = q := by
    rcases C.loo with ⟨e, _⟩ | ⟨_, q', e, o, _⟩
    · exact absurd e hU0
    · exact ⟨q', o, by cases e; rfl⟩
  subst hq'
  have hfl := fm_len actC_len U
  have hSs : Ss 6 actC g1 (.l q' 0 0 U.length (U.length * 6) none) U := Ss.lit oq.own rfl actC_len rfl (Nat.le_refl _)
  have hla : ∀ N : Nx, LN Tryz.prog q' 0 (i * 6) (U.length * 6) 6 g1 N = N.go Tryz.prog (.a (actC (U.getD i default))) g1 := fun N => by
    have := Ss.ldA (P := Tryz.prog) (N := N) hSs actC_len (by omega) (i := i) hil
    have e0 : loff (.l q' 0 0 U.length (U.length * 6) none) + i * 6 = i * 6 := Nat.zero_add _
    rw [e0] at this
    exact this
  generalize hact : U.getD i default = a at hla
  have ha6 : cells (.a (actC a)) = actC a := rfl
  repeat' (first
    | refine St.h ?_
    | simp (disch := first | omega | (simp only [lnv]; omega)) only [wlk, mwk, ↓get_put', ↓reduceIte, seval, f3, f45, f46, f47, Int.toNat_natCast, hla]
    | (with_reducible (first | apply cd_split | apply gd_split)) <;> (intro hc; (try simp only [hcn] at hc); (try simp only [hc]); (try simp only [hcl] at hc); try omega))
  refine AL.own (by simp) hf fun g2 s2 n2 o2 => ?_
  have hf2 := s2.fl hf
  repeat' (first
    | refine St.h ?_
    | simp (disch := first | omega | (simp only [lnv]; omega)) only [wlk, mwk, ↓get_put', ↓reduceIte, seval, f3, f45, f46, f47]
    | (with_reducible (first | apply cd_split | apply gd_split)) <;> (intro hc; (try simp only [hcn] at hc); (try simp only [hc]); (try simp only [hcl] at hc); try omega))
  refine ST.ownAll o2 ha6 rfl (actC_one a) (by show 6 ≤ 6; omega) (by show 6 < 2 ^ 37; decide) fun g3 o3 s3 => ?_
  have s23 : Stay nowhere g1 g3 := s2.past' s3 fun p hp => by rw [hp]; exact Nat.le_refl _
  have hf3 := s23.fl hf
  have hc3 := C.own.stay s23 fun e => e
  have r4 : ∀ N : Nx, L1 Tryz.prog g1.next 0 4 6 g3 N = N.go Tryz.prog .l0 g3 := fun N => by
    have := o3.row.l1 (P := Tryz.prog) (N := N) (off := 4) (fin := 6) (by show 4 < 6; omega) (by omega)
    exact this
  repeat' (first
    | refine St.h ?_
    | simp (disch := first | omega | (simp only [lnv]; omega)) only [wlk, mwk, ↓get_put', ↓reduceIte, seval, f3, f45, f46, f47, hc3.own.row.l1, r4]
    | (with_reducible (first | apply cd_split | apply gd_split)) <;> (intro hc; (try simp only [hcn] at hc); (try simp only [hc]); (try simp only [hcl] at hc); try omega))
  refine CL.mkU cl_nil ?_
  rintro y g4' ⟨rfl, rfl⟩
  have eu : unFloor g3 (reFloor g3) = g3 := by cases g3; rfl
  rw [eu]
  have oq3 := oq.stay s23 fun e => e
  repeat' (first
    | refine St.h ?_
    | simp (disch := first | omega | (simp only [lnv]; omega)) only [wlk, mwk, ↓get_put', ↓reduceIte, seval, f3, f45, f46, f47, Int.toNat_natCast]
    | (with_reducible (first | apply cd_split | apply gd_split)) <;> (intro hc; (try simp only [hcn] at hc); (try simp only [hc]); (try simp only [hcl] at hc); try omega))
  refine ST.ownX oq3 rfl rfl (by omega) (by omega) fun g5 oq5 s5 => ?_
  rw [acts_same hil] at oq5
  have hf5 := s5.fl hf3
  have sN : ∀ {p : B}, p ≠ q' → ¬ p = q' := fun h => h
  have C5 : CopyX n0 g5 c cm (.l q' 0 0 U.length (U.length * 6) none) Z U rm := by
    refine ⟨hc3.stay s5 fun e => qc e.symm, .inr ⟨hU0, q', rfl, oq5, nq⟩, (C.map.stay s23 fun e => e).stay s5 fun e => qcm e.symm, fun z hz => ((C.fil z hz).stay s23 fun _ _ e => e).stay s5 fun p hp e => ?_, C.fp, C.cc, C.ls, C.lm, C.fs, C.nc, C.nm⟩
    exact (C.fs z hz p hp).2.2.2 (by rw [e]; exact isq)
  repeat' (first
    | refine St.h ?_
    | simp (disch := first | omega | (simp only [lnv]; omega)) only [wlk, mwk, ↓get_put', ↓reduceIte, seval, f3, f45, f46, f47]
    | (with_reducible (first | apply cd_split | apply gd_split)) <;> (intro hc; (try simp only [hcn] at hc); (try simp only [hc]); (try simp only [hcl] at hc); try omega))
  refine lp_next hI (U.length - (i + 1)) (by omega) ⟨i + 1, rfl, by omega, ?_, ?_, ?_, ?_, C5, hf5⟩
  · simp (disch := first | omega | (simp only [lnv]; omega)) only [wlk, mwk, ↓get_put', ↓reduceIte, seval, f3]
  · simp (disch := first | omega | (simp only [lnv]; omega)) only [wlk, mwk, ↓get_put', ↓reduceIte, seval, f45]
  · simp (disch := first | omega | (simp only [lnv]; omega)) only [wlk, mwk, ↓get_put', ↓reduceIte, seval, f46]
  · simp (disch := first | omega | (simp only [lnv]; omega)) only [wlk, mwk, ↓get_put', ↓reduceIte, seval]; rfl
theorem copy_n (S : SrcR h.next h s mp lo X U rm) (hX : X.length ≤ 1000) (hU : U.length ≤ 10000) (hl : ∀ z ∈ X, z.2.2.length ≤ 1000000) (hf : B.val h.floor ≤ B.val h.next) :
    FnN Tryz.prog 50 [.p s 0 0 3] h (copyK h.next X U rm) := by
  refine fn_so cs50 (by decide) (by simp) (by simp) fun Q hQ => ?_
  simp only [slotsF, Nat.reduceAdd]
  refine OkS.seq (OkS.cc ?_)
  repeat' (first
    | refine St.h ?_
    | simp (disch := first | omega | (simp only [lnv]; omega)) only [wlk, mwk, ↓get_put', ↓reduceIte, seval, sqs_n]
    | (with_reducible (first | apply cd_split | apply gd_split)) <;> (intro hc; (try simp only [hcn] at hc); (try simp only [hc]); (try simp only [hcl] at hc); try omega))
  refine OkS.seq (OkS.cc ?_)
  repeat' (first
    | refine St.h ?_
    | simp (disch := first | omega | (simp only [lnv]; omega)) only [wlk, mwk, ↓get_put', ↓reduceIte, seval, sqs_n, S.row.l1, S.ln hf]
    | (with_reducible (first | apply cd_split | apply gd_split)) <;> (intro hc; (try simp only [hcn] at hc); (try simp only [hc]); (try simp only [hcl] at hc); try omega))
  rw [or_makeMap1 (kd := .i64) (n := (X.length : Int)) (by simp (disch := first | omega | (simp only [lnv]; omega)) only [wlk, mwk, ↓get_put', ↓reduceIte, seval])]
  refine MN.mk (re_fl _) fun h1' m1 s1 n1 => ?_
  have fl1 : h1'.floor = h.next := by rw [s1.floor, reFloor_floor]
  have m1 := mapC_un m1 fl1 hf
  have s1 := s1.unfloor
  have n1 : B.val (unFloor h h1').next = B.val h.next + 1 := by rw [unFloor_mk]; rw [reFloor_next] at n1; exact n1
  rw [reFloor_next] at m1 ⊢
  rw [go_u]
  generalize unFloor h h1' = h1 at m1 s1 n1 ⊢
  clear fl1
  have hf1 := s1.fl hf
  have S1 := S.grow s1 (Nat.le_refl _)
  repeat' (first
    | refine St.h ?_
    | simp (disch := first | omega | (simp only [lnv]; omega)) only [wlk, mwk, ↓get_put', ↓reduceIte, seval, sqs_n, S1.row.l1]
    | (with_reducible (first | apply cd_split | apply gd_split)) <;> (intro hc; (try simp only [hcn] at hc); (try simp only [hc]); (try simp only [hcl] at hc); try omega))
  refine CL.mkU (cl_acts (ss_re' S1.acts) S.nonil hU (re_fl _)) ?_
  rintro lo1 h2' ⟨s2, hlo⟩
  have fl2 : h2'.floor = h1.next := by rw [s2.floor, reFloor_floor]
  have hlo := LooN.un (n0 := h1.next) (by rw [reFloor_next] at hlo; exact hlo) fl2 hf1
  have s2 := s2.unfloor
  generalize unFloor h1 h2' = h2 at hlo s2 ⊢
  clear fl2
  have hf2 := s2.fl hf1
  have hlsl := hlo.sl
  repeat' (first
    | refine St.h ?_
    | simp (disch := first | omega | (simp only [lnv]; omega)) only [wlk, mwk, ↓get_put', ↓reduceIte, seval, sqs_n, hlsl.fp, fp_m]
    | (with_reducible (first | apply cd_split | apply gd_split)) <;> (intro hc; (try simp only [hcn] at hc); (try simp only [hc]); (try simp only [hcl] at hc); try omega))
  refine AL.ownX (by simp) hf2 fun h3 s3 n3 oc => ?_
  repeat' (first
    | refine St.h ?_
    | simp (disch := first | omega | (simp only [lnv]; omega)) only [wlk, mwk, ↓get_put', ↓reduceIte, seval, sqs_n]
    | (with_reducible (first | apply cd_split | apply gd_split)) <;> (intro hc; (try simp only [hcn] at hc); (try simp only [hc]); (try simp only [hcl] at hc); try omega))
  have hn1 : B.val h.next ≤ B.val h1.next := by omega
  have hn2 : B.val h.next ≤ B.val h2.next := Nat.le_trans hn1 s2.next
  have hn3 : B.val h.next ≤ B.val h3.next := by omega
  have S3 := (S1.grow s2 hn1).grow s3 hn2
  have m3 := (m1.stay s2 fun e => e).stay s3 fun e => e
  have hlo3 : LooN h3 lo1 U h.next := by
    refine LooN.stay (h := h2) ?_ s3 fun _ _ e => e
    exact hlo.imp (fun e => e) fun ⟨e1, q, e2, e3, e4⟩ => ⟨e1, q, e2, e3, by omega⟩
  have hlq : ∀ q, isOf lo1 q → B.val h1.next ≤ B.val q ∧ B.val q < B.val h2.next := fun q hq => by
    rcases hlo with ⟨_, rfl⟩ | ⟨_, q', rfl, o, l⟩
    · obtain ⟨_, _, _, _, _, e⟩ := hq; cases e
    · obtain ⟨_, _, _, _, _, e⟩ := hq; cases e; exact ⟨l, o.lt⟩
  have hls : ¬ isOf lo1 h2.next := fun e => by have := hlq _ e; omega
  have hlm : ¬ isOf lo1 h.next := fun e => by have := hlq _ e; omega
  have hcc : h2.next ≠ h.next := fun e => by rw [e] at hn2 n3; have := s2.next; have e2 : B.val h2.next = B.val h.next := by rw [e]
                                             omega
  have hf3 := s3.fl hf2
  have tail : ∀ t g Z, get 3 t = .p h2.next 0 0 3 → (bCs Z).Perm (bCs X) → MapC g h.next (vCs Z) → (∀ z ∈ Z, FileX g z.2.1 z.2.2 ∧ ∀ q, qOf z.2.1 q → B.val h3.next ≤ B.val q) → Z.Pairwise apa → Stay (fun q => q = h.next) h3 g →
      Ok Tryz.prog 64 s50_14 t g (FnK [Rs.tmp (slOf 2)] Q) := fun t g Z f3 hper mg fil fp st => by
    refine copy_tail (n0 := h.next) hQ f3 ⟨oc.stay st hcc, hlo3.stay st fun q hq e => ?_, mg, fun z hz => (fil z hz).1, fp, hcc, hls, hlm, fun z hz q hq => ?_, by omega, Nat.le_refl _⟩ hper hU (st.fl hf3)
    · exact hlm (by rw [← e]; exact hq)
    · have h9 := (fil z hz).2 q hq
      exact ⟨by omega, fun e => by rw [e] at h9; omega, fun e => by rw [e] at h9; omega, fun e => by have := hlq _ e; omega⟩
  have hst0 : Stay (fun q => q = h.next) h3 h3 := Stay.refl _ _
  rcases S3.map with ⟨hmp, hX0⟩ | ⟨idm, hmp, mF, hidm⟩
  · subst hmp
    refine OkS.seq (OkS.rng0 (wo_gen fun K hK => ?_))
    dsimp only [r50_0]
    simp (disch := first | omega | (simp only [lnv]; omega)) only [wlk, mwk, ↓get_put', ↓reduceIte, seval, S3.row.l1]
    subst hK
    refine ⟨?_, wo_gen fun K hK => ?_⟩
    · show get 28 _ = _
      simp (disch := first | omega | (simp only [lnv]; omega)) only [wlk, mwk, ↓get_put', ↓reduceIte, seval]
    simp (disch := first | omega | (simp only [lnv]; omega)) only [wlk, mwk, ↓get_put', ↓reduceIte, seval]
    subst hK
    refine ⟨?_, ?_⟩
    · show get 31 _ = _
      simp (disch := first | omega | (simp only [lnv]; omega)) only [wlk, mwk, ↓get_put', ↓reduceIte, seval]
    · rw [sqs_n]
      refine OkS.cc (tail _ h3 [] (by simp (disch := first | omega | (simp only [lnv]; omega)) only [wlk, mwk, ↓get_put', ↓reduceIte, seval]) (by rw [hX0]) m3 (fun f hf => (by cases hf)) .nil hst0)
  subst hmp
  refine OkS.seq (OkS.rngF (wo_gen fun K hK => ?_))
  dsimp only [r50_0]
  simp (disch := first | omega | (simp only [lnv]; omega)) only [wlk, mwk, ↓get_put', ↓reduceIte, seval, S3.row.l1]
  subst hK
  let Inv : B → En → F → H → Prop := fun idI vis t g => get 29 t = .p idI 0 0 0 ∧ get 3 t = .p h2.next 0 0 3 ∧ B.val h3.next ≤ B.val idI ∧ B.val idI < B.val g.next ∧ Stay (fun q => q = h.next) h3 g ∧
    ∃ Y Z : Cs, vis = vCs Y ∧ (∀ y ∈ Y, y ∈ X) ∧ bCs Z = bCs Y ∧ MapC g h.next (vCs Z) ∧ (∀ z ∈ Z, FileX g z.2.1 z.2.2 ∧ ∀ q, qOf z.2.1 q → B.val idI < B.val q) ∧ Z.Pairwise apa
  let Kb : Ev.X → F → H → Prop := fun x t g => x = .normal ∧ get 3 t = .p h2.next 0 0 3 ∧ Stay (fun q => q = h.next) h3 g ∧ ∃ Z : Cs, (bCs Z).Perm (bCs X) ∧ MapC g h.next (vCs Z) ∧ (∀ z ∈ Z, FileX g z.2.1 z.2.2 ∧ ∀ q, qOf z.2.1 q → B.val h3.next ≤ B.val q) ∧ Z.Pairwise apa
  refine ⟨idm, vCs X, Inv, Kb, ?_, mF, ?_, ⟨fun hi => hi.1, ?_, ?_, ?_⟩, ?_⟩
  · show get 28 _ = _
    simp (disch := first | omega | (simp only [lnv]; omega)) only [wlk, mwk, ↓get_put', ↓reduceIte, seval]
  · intro g st hn
    exact ⟨by simp (disch := first | omega | (simp only [lnv]; omega)) only [wlk, mwk, ↓get_put', ↓reduceIte, seval], by simp (disch := first | omega | (simp only [lnv]; omega)) only [wlk, mwk, ↓get_put', ↓reduceIte, seval], Nat.le_refl _, by omega, st.mono fun _ _ e => e.elim, [], [], rfl, fun y hy => (by cases hy), rfl, m3.stay st fun e => e, fun f hf => (by cases hf), .nil⟩
  · rintro idI vis t g g' ⟨a1, a2, a3, a4, a5, Y, Z, b1, b2, b3, b4, b5, b6⟩ st hnx
    refine ⟨a1, a2, a3, by rw [hnx]; exact a4, stay_past a5 st fun q e => .inr (by rw [e]; exact a3), Y, Z, b1, b2, b3, b4.stay st fun e => by rw [← e] at a3; omega, fun f hf => ⟨(b5 f hf).1.stay st fun q hq e => ?_, (b5 f hf).2⟩, b6⟩
    have := (b5 f hf).2 q hq
    rw [e] at this; exact absurd this (Nat.lt_irrefl _)
  · rintro idI vis t g ⟨a1, a2, a3, a4, a5, Y, Z, b1, b2, b3, b4, b5, b6⟩ hv ha
    refine wo_gen fun K hK => ?_
    simp (disch := first | omega | (simp only [lnv]; omega)) only [wlk, mwk, ↓get_put', ↓reduceIte, seval]
    subst hK
    refine ⟨?_, Stay.refl _ _, rfl, by simp (disch := first | omega | (simp only [lnv]; omega)) only [wlk, mwk, ↓get_put', ↓reduceIte, seval, a2], a5, Z, ?_, b4, fun f hf => ⟨(b5 f hf).1, fun q hq => by have := (b5 f hf).2 q hq; omega⟩, b6⟩
    · show get 31 _ = _
      simp (disch := first | omega | (simp only [lnv]; omega)) only [wlk, mwk, ↓get_put', ↓reduceIte, seval]
    · rw [b3]
      subst b1
      exact (all_perm (by rw [← keys_nam]; exact mF.nod) b2 hv.2 ha).map _
  · rintro idI vis t g k v ⟨a1, a2, a3, a4, a5, Y, Z, b1, b2, b3, b4, b5, b6⟩ hv hin hk
    obtain ⟨x, hxX, hxe⟩ := List.mem_map.1 hin
    obtain ⟨kx, vx, bs⟩ := x
    obtain ⟨rfl, rfl⟩ := Prod.mk.inj hxe
    have hfg := a5.fl hf3
    have Sg := S3.stay a5 (fun q hq e => by rw [e] at hq; exact absurd hq (Nat.lt_irrefl _)) hn3
    have hfr : FileR h.next g vx bs := Sg.fil _ hxX
    have hbl : bs.length ≤ 1000000 := hl _ hxX
    have hng : B.val h.next ≤ B.val g.next := Nat.le_trans hn3 a5.next
    have ocg := oc.stay a5 hcc
    refine wo_gen fun K hK => ?_
    simp (disch := first | omega | (simp only [lnv]; omega)) only [wlk, mwk, ↓get_put', ↓reduceIte, seval]
    subst hK
    refine ⟨?_, by simp (disch := first | omega | (simp only [lnv]; omega)) only [wlk, mwk, ↓get_put', ↓reduceIte, seval, a1], Stay.refl _ _, ?_⟩
    · show get 31 _ = _
      simp (disch := first | omega | (simp only [lnv]; omega)) only [wlk, mwk, ↓get_put', ↓reduceIte, seval]
    refine wo_gen fun K hK => ?_
    simp (disch := first | omega | (simp only [lnv]; omega)) only [wlk, mwk, ↓get_put', ↓reduceIte, seval]
    subst hK
    refine ⟨Stay.refl _ _, OkS.cc ?_⟩
    repeat' (first
      | refine St.h ?_
      | simp (disch := first | omega | (simp only [lnv]; omega)) only [wlk, mwk, ↓get_put', ↓reduceIte, seval, a2, ocg.own.row.l1]
      | (with_reducible (first | apply cd_split | apply gd_split)) <;> (intro hc; (try simp only [hcn] at hc); (try simp only [hc]); (try simp only [hcl] at hc); try omega))
    refine CL.mkU (cl_file hfr.re (by rw [reFloor_next]; exact hng) hbl (re_fl _)) ?_
    rintro y g4' ⟨c2, s4, c4⟩
    have fl4 : g4'.floor = g.next := by rw [s4.floor, reFloor_floor]
    have c2 := c2.un fl4 hfg
    have s4 := s4.unfloor
    rw [reFloor_next] at c4
    generalize unFloor g g4' = g4 at c2 s4 ⊢
    clear fl4
    have hf4 := s4.fl hfg
    have b44 := b4.stay s4 fun e => e
    repeat' (first
      | refine St.h ?_
      | simp (disch := first | omega | (simp only [lnv]; omega)) only [wlk, mwk, ↓get_put', ↓reduceIte, seval]
      | (with_reducible (first | apply cd_split | apply gd_split)) <;> (intro hc; (try simp only [hcn] at hc); (try simp only [hc]); (try simp only [hcl] at hc); try omega))
    have hlz : (vCs Z).length ≤ 1048576 := by
      have e1 : Z.length = Y.length := by have := congrArg List.length b3; unfold bCs at this; rwa [List.length_map, List.length_map] at this
      have e2 : (vCs Y).length ≤ (vCs X).length := by rw [← b1]; exact hv.len
      rw [len_Cs] at *
      rw [len_Cs] at e2
      omega
    refine MU.mk b44 hlz fun g5 m5 s5 => ?_
    have hZY : Z.map (·.1) = Y.map (·.1) := by
      have h1 : ∀ W : Cs, (bCs W).map (·.1) = W.map (·.1) := fun W => by unfold bCs; rw [List.map_map]; rfl
      rw [← h1 Z, b3, h1 Y]
    have hkn : kx ∉ keysE (vCs Z) := by rw [keys_nam, hZY, ← keys_nam, ← b1]; exact hk
    have hset : setE (vCs Z) kx y = vCs (Z ++ [(kx, (y, bs))]) := by
      have hi : idxE (vCs Z) kx = none := by
        cases hi : idxE (vCs Z) kx with
        | none => rfl
        | some i => exact absurd (getE_mem.1 ⟨_, (idxE_get hi).2⟩) hkn
      rw [(idxE_none hi).2.1]
      show _ ++ _ = List.map _ (_ ++ _)
      rw [List.map_append]; rfl
    rw [hset] at m5
    have hoc : ∀ q, qOf y q → B.val g.next ≤ B.val q := fun q ⟨nn, fin, e⟩ => c4 q ⟨_, _, _, _, _, e⟩
    have hcl : B.val h.next < B.val h3.next := by omega
    have sAll : Stay (fun q => q = h.next) g g5 := stay_past (s4.mono fun _ _ e => e.elim) s5 fun q e => .inl e
    repeat' (first
      | refine St.h ?_
      | simp (disch := first | omega | (simp only [lnv]; omega)) only [wlk, mwk, ↓get_put', ↓reduceIte, seval]
      | (with_reducible (first | apply cd_split | apply gd_split)) <;> (intro hc; (try simp only [hcn] at hc); (try simp only [hc]); (try simp only [hcl] at hc); try omega))
    refine ⟨sAll.mono fun q _ e => by
      rw [e]
      refine ⟨fun e2 => ?_, fun e2 => ?_⟩
      · rw [e2] at hidm; exact absurd hidm (Nat.lt_irrefl _)
      · rw [← e2] at a3; omega, ?_⟩
    refine ⟨by simp (disch := first | omega | (simp only [lnv]; omega)) only [wlk, mwk, ↓get_put', ↓reduceIte, seval, a1], by simp (disch := first | omega | (simp only [lnv]; omega)) only [wlk, mwk, ↓get_put', ↓reduceIte, seval, a2], a3, by have := sAll.next; omega, a5.trans sAll, Y ++ [(kx, (vx, bs))], Z ++ [(kx, (y, bs))], ?_, ?_, ?_, m5, ?_, ?_⟩
    · rw [b1]
      show _ = List.map _ (_ ++ _)
      rw [List.map_append]; rfl
    · intro w hw
      rcases List.mem_append.1 hw with h1 | h1
      · exact b2 w h1
      · rw [List.mem_singleton.1 h1]; exact hxX
    · show List.map _ (_ ++ _) = List.map _ (_ ++ _)
      rw [List.map_append, List.map_append]
      exact congrArg (· ++ [(kx, bs)]) b3
    · intro f hf
      rcases List.mem_append.1 hf with h1 | h1
      · refine ⟨(b5 f h1).1.stay sAll fun q hq e => ?_, (b5 f h1).2⟩
        have := (b5 f h1).2 q hq
        rw [e] at this; omega
      · have hfe : f = (kx, (y, bs)) := by simpa using h1
        rw [hfe]
        exact ⟨c2.stay s5 fun q hq e => (by have := hoc q hq; rw [e] at this; omega), fun q hq => by have := hoc q hq; omega⟩
    · refine List.pairwise_append.2 ⟨b6, List.pairwise_singleton .., fun f1 h1 f2 h2 q q1 q2 => ?_⟩
      have hfe : f2 = (kx, (y, bs)) := by simpa using h2
      rw [hfe] at q2
      have k1 := hoc q q2
      have k2 := (b5 f1 h1).1.lt q1
      omega
  · rintro x t' g ⟨rfl, f3, st, Z, hper, mg, fil, fp⟩ _
    rw [sqs_n]
    exact OkS.cc (tail _ g Z f3 hper mg fil fp st)
end
end Go.Proofs.YtiokhkainaodnaaGreatDoor

set_option maxRecDepth 100000
set_option maxHeartbeats 8000000
set_option linter.all false
namespace Go.Proofs.YtiokhkainaodnaaGreatDoor
open Go Go.Ev Go.MapKept
def okByte : V → Bool
  | .i .u8 (.ofNat n) => Nat.ble (n + 1) 256
  | _ => false
noncomputable def okB (vs : List V) : Bool := List.rec true (fun v _ ih => ifK (okByte v) fun _ => ih) vs
/-- what the files hold -/
noncomputable def readF (h : H) (ps : List (V × V)) : (List (V × List V) → Bool) → Bool :=
  List.rec (fun k => k []) (fun p _ ih k => Prod.rec (fun a v => vL v (fun _ => false) fun id g off len fin _ => natC len (fun _ => ih fun qs => k ((a, []) :: qs)) fun n =>
    ifK (Nat.ble n 1000000) fun _ => ifK (Nat.ble (B.val id + 1) (B.val h.next)) fun _ => loadN h id g off fin n fun vs => ifK (okB vs) fun _ => ih fun qs => k ((a, vs) :: qs)) p) ps
/-- files that hold it, one by one; what is empty lies in no block of its own -/
noncomputable def newFs (eb : Nat) (s : B) (ps : List (V × List V)) : H → (List (V × V) → H → Bool) → Bool :=
  List.rec (fun h k => k [] h) (fun p _ ih h k => Prod.rec (fun a vs => natC vs.length (fun _ => ih h fun qs h => k ((a, .l s 0 0 0 0 (some 0)) :: qs) h) fun n => alloc eb vs h fun id h => ih h fun qs h => k ((a, .l id 0 0 n n none) :: qs) h) p) ps
def isRoom : V → Bool
  | .i .i64 _ => true
  | _ => false
def isTxt : V → Bool
  | .s l n => Nat.ble (n + 1) (256 ^ l)
  | _ => false
def isL0 : V → Bool
  | .l0 => true
  | _ => false
def isBo : V → Bool
  | .b _ => true
  | _ => false
noncomputable def act1 (vs : List V) (k : List V → Bool) : Bool := match vs with
  | a :: b :: c :: d :: e :: f :: r => ifK (isRoom a) fun _ => ifK (isTxt b) fun _ => ifK (isTxt c) fun _ => ifK (isRoom d) fun _ => ifK (isL0 e) fun _ => ifK (isBo f) fun _ => k r
  | _ => false
/-- acts of which nothing is gone -/
noncomputable def okActs (n : Nat) : List V → Bool := Nat.rec (fun vs => vs.isEmpty) (fun _ ih vs => act1 vs ih) n
noncomputable def newLo (ea n : Nat) (ls : List V) (h : H) (k : V → H → Bool) : Bool := natC n (fun _ => k .l0 h) fun n => fN (Nat.mul n 6) fun z => alloc ea ls h fun q h => k (.l q 0 0 n z none) h
noncomputable def copyE (eb ea es : Nat) (s : B) (a : V) (n : Nat) (ls : List V) (ps : List (V × V)) (h : H) (k : V → H → Bool) : Bool :=
  readF h ps fun qs => newFs eb s qs h fun rs h1 => newMap rs h1 fun cm h2 => newLo ea n ls h2 fun lo h3 => alloc es [a, .m cm, lo] h3 fun c h4 => k (.p c 0 0 3) h4
noncomputable def copyM (eb ea es : Nat) (s : B) (a m : V) (n : Nat) (ls : List V) (h : H) (k : V → H → Bool) : Bool := vM m (fun _ => copyE eb ea es s a n ls [] h k) fun id =>
  ifK (Nat.ble (B.val id + 1) (B.val h.next)) fun _ => mapK h id fun _ _ _ _ _ _ _ ps => ifK (okPs ps) fun _ => ifK (Nat.ble ps.length 1000) fun _ => copyE eb ea es s a n ls ps h k
noncomputable def copyL (c : V) (h : H) (k : Nat → List V → Bool) : Bool := vL c (fun _ => k 0 []) fun id g off len fin _ => natC len (fun _ => false) fun n => ifK (Nat.ble n 10000) fun _ => ifK (Nat.ble (B.val id + 1) (B.val h.next)) fun _ => loadN h id g off fin (Nat.mul n 6) fun vs => ifK (okActs n vs) fun _ => k n vs
noncomputable def copyA (eb ea es : Nat) (s : B) (a m c : V) (h : H) (k : V → H → Bool) : Bool := ifK (isRoom a) fun _ => ifK (Nat.ble (B.val s + 1) (B.val h.next)) fun _ => ifK (Nat.ble (B.val h.floor) (B.val h.next)) fun _ => copyL c h fun n ls => copyM eb ea es s a m n ls h k
noncomputable def fin3 : List V → Bool
  | [.p _ _ _ 3] => true
  | _ => false
noncomputable def copyS (eb ea es : Nat) : Sp := fun args h k => ifK (fin3 args) fun _ => shelfK args h fun s a m c => copyA eb ea es s a m c h k
inductive RF (w : World) (el : Nat) : List UInt8 → Value → Option Nat → Prop where
  | nil (a : Addr) : RF w el [] (.slice (some a) 0 0) none
  | cons {bs : List UInt8} {b cap : Nat} {c : Array Value} {fz : Nat × Nat} (h0 : bs ≠ []) (h1 : w.heap[b]? = some (.cells c el fz)) (h2 : fz.1 = fz.2) (h3 : bs.length ≤ cap) (h4 : cap ≤ c.size)
      (h5 : ∀ (i : Nat) y v, (bs.map bv)[i]? = some y → c[i]? = some v → ∀ ρ, VRel ρ y v) : RF w el bs (.slice (some ⟨b, 0, none⟩) bs.length cap) (some b)
abbrev Bs := List (List UInt8 × List UInt8)
inductive RFs (w : World) (el : Nat) : Bs → List MapEntry → List (Option Nat) → Prop where
  | nil : RFs w el [] [] []
  | cons {k bs : List UInt8} {e : MapEntry} {o : Option Nat} {X : Bs} {l : List MapEntry} {os : List (Option Nat)} (h1 : ∀ ρ, VRel ρ (sv k) e.key) (h2 : RF w el bs e.val o) (h3 : RFs w el X l os) : RFs w el ((k, bs) :: X) (e :: l) (o :: os)
/-- .. a row of acts -/
inductive LF (w : World) (el : Nat) : List AC → Value → Option Nat → Prop where
  | nil : LF w el [] (.slice none 0 0) none
  | cons {U : List AC} {b cap : Nat} {c : Array Value} {fz : Nat × Nat} (h0 : U ≠ []) (h1 : w.heap[b]? = some (.cells c el fz)) (h2 : fz.1 = fz.2) (h3 : U.length ≤ cap) (h4 : cap * 6 ≤ c.size)
      (h5 : ∀ (i : Nat) y v, (U.flatMap actC)[i]? = some y → c[i]? = some v → ∀ ρ, VRel ρ y v) : LF w el U (.slice (some ⟨b, 0, none⟩) U.length cap) (some b)
theorem vact {ρ ρ' : Emb} {U : List AC} {i : Nat} {y : V} {v : Value} (h : (U.flatMap actC)[i]? = some y) (hv : VRel ρ y v) : VRel ρ' y v := by
  obtain ⟨a, _, ha⟩ := List.mem_flatMap.1 (List.mem_of_getElem? h)
  have ha : y ∈ [V.i .i64 a.kind, sv a.name, sv a.old, .i .i64 a.front, .l0, .b a.had] := ha
  simp only [List.mem_cons, List.mem_nil_iff, or_false] at ha
  rcases ha with rfl | rfl | rfl | rfl | rfl | rfl <;> exact hv
def opa (a b : Option Nat) : Prop := ∀ q, a = some q → b = some q → False
theorem RFs.perm {w : World} {el : Nat} {X Y : Bs} (p : X.Perm Y) : ∀ {l os}, RFs w el X l os → ∃ l' os', l'.Perm l ∧ os'.Perm os ∧ RFs w el Y l' os' := by
  induction p with
  | nil => intro l os h; exact ⟨l, os, .refl _, .refl _, h⟩
  | cons x _ ih =>
    intro l os h
    cases h with
    | cons h1 h2 h3 =>
      obtain ⟨l', os', p1, p2, p3⟩ := ih h3
      exact ⟨_, _, p1.cons _, p2.cons _, .cons h1 h2 p3⟩
  | swap x y z =>
    intro l os h
    cases h with
    | cons h1 h2 h3 =>
      cases h3 with
      | cons g1 g2 g3 => exact ⟨_, _, .swap _ _ _, .swap _ _ _, .cons g1 g2 (.cons h1 h2 g3)⟩
  | trans _ _ ih1 ih2 =>
    intro l os h
    obtain ⟨l1, os1, a1, a2, a3⟩ := ih1 h
    obtain ⟨l2, os2, b1, b2, b3⟩ := ih2 a3
    exact ⟨l2, os2, b1.trans a1, b2.trans a2, b3⟩
theorem vbv {ρ ρ' : Emb} {bs : List UInt8} {i : Nat} {y : V} {v : Value} (h : (bs.map bv)[i]? = some y) (hv : VRel ρ y v) : VRel ρ' y v := by
  rw [List.getElem?_map] at h
  cases hb : bs[i]? with
  | none => rw [hb] at h; cases h
  | some c => rw [hb] at h; cases h; exact hv
section
variable {ρ : Emb} {g : H} {w w1 : World} {n0 c cm : B} {N : Nat}
theorem rfs_of (R : HRel ρ g w w1) : ∀ {Z : Cs} {l : List MapEntry}, F2 ρ (toP (vCs Z)) l → (∀ z ∈ Z, FileX g z.2.1 z.2.2) → Z.Pairwise apa → ∃ os, RFs w 5 (bCs Z) l os ∧
    (∀ o ∈ os, ∀ b, o = some b → ∃ z ∈ Z, ∃ q L, qOf z.2.1 q ∧ ρ q 0 = some L ∧ L.b = b) ∧ os.Pairwise opa
  | [], _, f, _, _ => by
    cases f
    exact ⟨[], .nil, fun o ho => (by cases ho), List.Pairwise.nil⟩
  | (k, v, bs) :: Z, l, f, hx, hp => by
    have f' : F2 ρ ((sv k, v) :: toP (vCs Z)) l := f
    cases f' with
    | cons f1 f2 f3 =>
      obtain ⟨p1, p2⟩ := List.pairwise_cons.1 hp
      obtain ⟨os, a1, a2, a3⟩ := rfs_of R f3 (fun z hz => hx z (List.mem_cons_of_mem _ hz)) p2
      have up : ∀ o ∈ os, ∀ b, o = some b → ∃ z ∈ (k, v, bs) :: Z, ∃ q L, qOf z.2.1 q ∧ ρ q 0 = some L ∧ L.b = b := fun o ho b hb => by
        obtain ⟨z, hz, r⟩ := a2 o ho b hb
        exact ⟨z, List.mem_cons_of_mem _ hz, r⟩
      rcases hx (k, v, bs) (List.mem_cons_self ..) with ⟨hb, id, hv⟩ | ⟨hb, q, hv, o⟩
      · have hb : bs = [] := hb
        have hv : v = .l id 0 0 0 0 (some 0) := hv
        subst hb; subst hv
        obtain ⟨L, a, cc, b1, b2, b3, b4, b5, b6, b7, b8⟩ := f2
        have hc : cc = 0 := b7 0 rfl (by decide)
        refine ⟨none :: os, .cons (fun ρ' => f1) ?_ a1, fun o ho b hb => ?_, List.pairwise_cons.2 ⟨fun o ho q e => (by cases e), a3⟩⟩
        · rw [b2, hc]; exact .nil a
        · rcases List.mem_cons.1 ho with e | e
          · rw [e] at hb; cases hb
          · exact up o e b hb
      · have hb : bs ≠ [] := hb
        have hv : v = .l q 0 0 bs.length bs.length none := hv
        subst hv
        have hpos : 0 < bs.length := List.length_pos_iff.2 hb
        obtain ⟨L, a, cc, b1, b2, b3, b4, b5, b6, b7, b8⟩ := f2
        obtain ⟨⟨blk, c1, c2, c3, c4, c5, c6, c7⟩, _, _⟩ := o
        have hs : L.s = 0 := by omega
        have ha : a = ⟨L.b, 0, none⟩ := by
          rcases b6 with ⟨e, _⟩ | e
          · omega
          · rw [e, hs]
        obtain ⟨blk', d1, d2, d3, d4, d5, d6, d7⟩ := R.loc _ _ _ b1
        have : blk' = blk := by rw [c1] at d1; exact (Option.some.inj d1).symm
        subst this
        obtain ⟨cs, el, e1, e2, e3, e4⟩ := d7 (by rw [c3]; exact Nat.le_refl _)
        obtain ⟨e5, fz, e6, e7⟩ := e1
        rw [c4] at e7
        have e7 : fz.1 = fz.2 := e7
        rw [c5] at e5
        subst e5
        have hcap : cc ≤ cs.size := by
          rcases b8 (.inl rfl) with ⟨e, _⟩ | ⟨z, z1, z2, z3, _⟩
          · omega
          · rw [e2]
            have : cc * 1 ≤ cc * z := Nat.mul_le_mul_left _ z1
            omega
        refine ⟨some L.b :: os, .cons (fun ρ' => f1) ?_ a1, fun o ho b hb => ?_, List.pairwise_cons.2 ⟨fun o ho q' e e' => ?_, a3⟩⟩
        · rw [b2, ha]
          refine .cons hb e6 e7 b3 hcap fun i y v hy hv ρ' => ?_
          have hi : i < bs.length := by
            have := (List.getElem?_eq_some_iff.1 hy).1; simpa using this
          obtain ⟨v', x, g1, g2, g3⟩ := e4 i (by omega) (by omega)
          rw [c7 i y hy] at g1
          cases g1
          rw [hs] at g2
          have g2 : cs[i]? = some x := g2
          rw [hv] at g2
          cases g2
          exact vbv hy g3
        · rcases List.mem_cons.1 ho with e | e
          · rw [e] at hb; cases hb
            exact ⟨_, List.mem_cons_self .., q, L, ⟨_, _, rfl⟩, b1, rfl⟩
          · exact up o e b hb
        · cases e
          obtain ⟨z, hz, q2, L2, k1, k2, k3⟩ := a2 o ho _ e'
          have := (R.sep _ _ _ _ _ _ b1 k2 k3.symm).1
          subst this
          exact p1 z hz q ⟨_, _, rfl⟩ k1
/-- a copy, seen from the world -/
structure CopyR (w : World) (X : Bs) (U : List AC) (rm : Int) (N : Nat) (x : Value) (bS bM : Nat) (cS : Array Value) (fS : Nat × Nat) (es : Array MapEntry) (clock : Nat) (l : List MapEntry) (os : List (Option Nat)) (yl : Value) (ol : Option Nat) : Prop where
  x : x = .pointer (some ⟨bS, 0, none⟩)
  s : w.heap[bS]? = some (.cells cS 115 fS)
  fz : fS.1 = fS.2
  n : 3 ≤ cS.size
  s0 : ∀ y, cS[0]? = some y → y = .int .i64 rm
  s1 : ∀ y, cS[1]? = some y → y = .map (some bM)
  s2 : ∀ y, cS[2]? = some y → y = yl
  m : w.heap[bM]? = some (.map es clock)
  st : Stamped es clock
  p : l.Perm es.toList
  rf : RFs w 5 X l os
  fr : ∀ o ∈ os, ∀ b, o = some b → N ≤ b ∧ b ≠ bS ∧ b ≠ bM
  pw : os.Pairwise opa
  ne : bS ≠ bM
  nS : N ≤ bS
  nM : N ≤ bM
  lf : LF w 201 U yl ol
  fl : ∀ b, ol = some b → N ≤ b ∧ b ≠ bS ∧ b ≠ bM ∧ some b ∉ os
theorem copy_real {Z X : Cs} {U : List AC} {lo' : V} {rm : Int} {x : Value} (R : HRel ρ g w w1) (C : CopyX n0 g c cm lo' Z U rm) (hN : ∀ id g' L, ρ id g' = some L → B.val n0 ≤ B.val id → N ≤ L.b) (hx : VRel ρ (.p c 0 0 3) x) (hp : (bCs Z).Perm (bCs X)) :
    ∃ bS bM cS fS es clock l os yl ol, CopyR w (bCs X) U rm N x bS bM cS fS es clock l os yl ol := by
  obtain ⟨L, a1, a2, a3, a4⟩ := hx
  have hs : L.s = 0 := by omega
  rw [hs] at a2
  obtain ⟨blk, d1, d2, d3, d4, d5, d6, d7⟩ := R.loc _ _ _ a1
  obtain ⟨⟨blk', c1, c2, c3, c4, c5, c6, c7⟩, _, _⟩ := C.own
  have : blk' = blk := by rw [c1] at d1; exact (Option.some.inj d1)
  subst this
  obtain ⟨cS, el, e1, e2, e3, e4⟩ := d7 (by rw [c3]; exact Nat.le_refl _)
  obtain ⟨e5, fz, e6, e7⟩ := e1
  rw [c4] at e7
  have e7 : fz.1 = fz.2 := e7
  rw [c5] at e5
  subst e5
  have hsz : 3 ≤ cS.size := by omega
  have cell : ∀ i v, [V.i .i64 rm, .m cm, lo'][i]? = some v → ∃ y, cS[i]? = some y ∧ VRel ρ v y := fun i v hv => by
    have hi : i < 3 := by
      have := (List.getElem?_eq_some_iff.1 hv).1; simpa using this
    obtain ⟨v', y, g1, g2, g3⟩ := e4 i (by omega) (by omega)
    rw [c7 i v hv] at g1
    cases g1
    rw [hs] at g2
    exact ⟨y, g2, g3⟩
  obtain ⟨y0, k0, v0⟩ := cell 0 _ rfl
  obtain ⟨y1, k1, LM, m1, v1⟩ := cell 1 _ rfl
  obtain ⟨y2, k2, v2⟩ := cell 2 _ rfl
  obtain ⟨bm, n1, n2, n3⟩ := C.map.blk
  obtain ⟨es, clock, w1, ps, w2, w3⟩ := R.mp.map cm LM bm m1 n1 n2
  obtain rfl := RdP.uniq w2 n3
  obtain ⟨l, l1, l2⟩ := w3.rel
  obtain ⟨os, r1, r2, r3⟩ := rfs_of R l2 C.fil C.fp
  obtain ⟨l', os', q1, q2, q3⟩ := r1.perm hp
  have hlo : ∃ ol, LF w 201 U y2 ol ∧ ∀ b, ol = some b → ∃ q Lq, isOf lo' q ∧ ρ q 0 = some Lq ∧ Lq.b = b ∧ B.val n0 ≤ B.val q := by
    rcases C.loo with ⟨hU, hlo⟩ | ⟨hU, q, hlo, o, nq⟩
    · subst hU; subst hlo
      have v2 : y2 = .slice none 0 0 := v2
      subst v2
      exact ⟨none, .nil, fun b hb => (by cases hb)⟩
    · subst hlo
      have hpos : 0 < U.length := List.length_pos_iff.2 hU
      obtain ⟨Lq, a, cc, b1, b2, b3, b4, b5, b6, b7, b8⟩ := v2
      obtain ⟨⟨bk, c1, c2, c3, c4, c5, c6, c7⟩, _, _⟩ := o
      have hs : Lq.s = 0 := by omega
      have ha : a = ⟨Lq.b, 0, none⟩ := by
        rcases b6 with ⟨e, _⟩ | e
        · omega
        · rw [e, hs]
      obtain ⟨bk', d1, d2, d3, d4, d5, d6, d7⟩ := R.loc _ _ _ b1
      have : bk' = bk := by rw [c1] at d1; exact (Option.some.inj d1).symm
      subst this
      obtain ⟨cs, el, e1, e2, e3, e4⟩ := d7 (by rw [c3]; exact Nat.le_refl _)
      obtain ⟨e5, fz, e6, e7⟩ := e1
      rw [c4] at e7
      have e7 : fz.1 = fz.2 := e7
      rw [c5] at e5
      subst e5
      have hcap : cc * 6 ≤ cs.size := by
        rcases b8 (.inl rfl) with ⟨e, _⟩ | ⟨z, z1, z2, z3, _⟩
        · omega
        · have z2 : U.length * 6 = U.length * z := by omega
          have : z = 6 := (Nat.eq_of_mul_eq_mul_left hpos z2).symm
          subst this
          rw [e2]
          omega
      have hlen := fm_len actC_len U
      refine ⟨some Lq.b, ?_, fun b hb => (by cases hb; exact ⟨q, Lq, ⟨_, _, _, _, _, rfl⟩, b1, rfl, nq⟩)⟩
      rw [b2, ha]
      refine .cons hU e6 e7 b3 hcap fun i y v hy hv ρ' => ?_
      have hi : i < U.length * 6 := by
        have := (List.getElem?_eq_some_iff.1 hy).1; rwa [hlen] at this
      obtain ⟨v', x, g1, g2, g3⟩ := e4 i (by omega) (by omega)
      rw [c7 i y hy] at g1
      cases g1
      rw [hs] at g2
      have g2 : cs[i]? = some x := g2
      rw [hv] at g2
      cases g2
      exact vact hy g3
  obtain ⟨ol, o1, o2⟩ := hlo
  refine ⟨L.b, LM.b, cS, fz, es, clock, l', os', y2, ol, a2, e6, e7, hsz, fun y hy => ?_, fun y hy => ?_, fun y hy => ?_, w1, w3.st, q1.trans l1, q3, fun o ho b hb => ?_, ?_, fun e => ?_, hN _ _ _ a1 C.nc, hN _ _ _ m1 C.nm, o1, fun b hb => ?_⟩
  · rw [k0] at hy; cases hy; exact v0
  · rw [k1] at hy; cases hy; exact v1
  · rw [k2] at hy; cases hy; rfl
  · obtain ⟨z, hz, q, Lq, t1, t2, rfl⟩ := r2 o (q2.mem_iff.1 ho) b hb
    obtain ⟨u1, u2, u3, _⟩ := C.fs z hz q t1
    exact ⟨hN _ _ _ t2 u1, fun e => u2 (R.sep _ _ _ _ _ _ t2 a1 e).1, fun e => u3 (R.sep _ _ _ _ _ _ t2 m1 e).1⟩
  · exact (q2.pairwise_iff (fun {a b} h q e1 e2 => h q e2 e1)).2 r3
  · exact C.cc (R.sep _ _ _ _ _ _ a1 m1 e).1
  · obtain ⟨q, Lq, t0, t1, t2, t3⟩ := o2 b hb
    subst t2
    refine ⟨hN _ _ _ t1 t3, fun e => ?_, fun e => ?_, fun e => ?_⟩
    · have := (R.sep _ _ _ _ _ _ t1 a1 e).1
      rw [this] at t0; exact C.ls t0
    · have := (R.sep _ _ _ _ _ _ t1 m1 e).1
      rw [this] at t0; exact C.lm t0
    · obtain ⟨z, hz, p, Lp, s1, s2, s3⟩ := r2 _ (q2.mem_iff.1 e) _ rfl
      have := (R.sep _ _ _ _ _ _ s2 t1 s3).1
      rw [← this] at t0
      exact (C.fs z hz p s1).2.2.2 t0
end
abbrev rdB (X : Bs) : List (V × List V) := X.map fun z => (sv z.1, z.2.map bv)
theorem okB_ok : ∀ {vs : List V}, okB vs = true → ∃ bs : List UInt8, vs = bs.map bv
  | [], _ => ⟨[], rfl⟩
  | v :: vs, h => by
    have h' : (ifK (okByte v) fun _ => okB vs) = true := h
    obtain ⟨h1, h2⟩ := ifK_ok h'
    obtain ⟨bs, rfl⟩ := okB_ok h2
    cases v <;> try exact Bool.noConfusion h1
    rename_i kd n
    cases kd <;> try exact Bool.noConfusion h1
    cases n with
    | negSucc n => exact Bool.noConfusion h1
    | ofNat n =>
      have h3 : Nat.ble (n + 1) 256 = true := h1
      have h4 : n < 256 := Nat.le_of_ble_eq_true h3
      refine ⟨UInt8.ofNat n :: bs, ?_⟩
      rw [List.map_cons, ← bv_ofNat, Nat.mod_eq_of_lt h4]; rfl
theorem loadN_un {h : H} {id : B} {g off fin n : Nat} {k : List V → Bool} (hk : loadN h id g off fin n k = true) : ∃ vs, (∀ k', loadN h id g off fin n k' = k' vs) ∧ vs.length = n ∧ off + n ≤ fin ∧ Row h id g off vs := by
  obtain ⟨next, floor, heap⟩ := h
  have hk0 := hk
  simp only [loadN, hK_mk] at hk0
  obtain ⟨⟨cur, min, size, cells, bel, fr⟩, hb, hk0⟩ := optK_ok hk0
  simp only [blkK_mk] at hk0
  obtain ⟨hm, hk0⟩ := ifK_ok hk0
  obtain ⟨hf, hk0⟩ := ifK_ok hk0
  obtain ⟨vs, q1, q2, q3⟩ := getList_ok _ _ _ _ hk0
  refine ⟨vs, fun k' => by simp only [loadN, hK_mk, hb, optK_some, blkK_mk, hm, ifK_true, hf, q1], q2, Nat.le_of_ble_eq_true hf, ⟨fun _ => ⟨_, hb, Nat.le_of_ble_eq_true hm⟩, fun i y hy => ?_⟩⟩
  have hi : i < n := by
    have := (List.getElem?_eq_some_iff.1 hy).1; omega
  unfold cell cellB
  simp only [hb]
  rw [if_pos (Nat.le_of_ble_eq_true hm), q3 i hi]
  exact hy
theorem readF_ok {h : H} : ∀ {E : En} {k : List (V × List V) → Bool}, readF h (toP E) k = true → ∃ X : Cs, E = vCs X ∧ (∀ z ∈ X, FileR h.next h z.2.1 z.2.2 ∧ z.2.2.length ≤ 1000000) ∧ ∀ k', readF h (toP E) k' = k' (rdB (bCs X))
  | [], _, _ => ⟨[], rfl, fun z hz => (by cases hz), fun _ => rfl⟩
  | (a, v) :: E, k, hk => by
    have e : ∀ k', readF h (toP ((a, v) :: E)) k' = vL v (fun _ => false) fun id g off len fin _ => natC len (fun _ => readF h (toP E) fun qs => k' ((sv a, []) :: qs)) fun n =>
        ifK (Nat.ble n 1000000) fun _ => ifK (Nat.ble (B.val id + 1) (B.val h.next)) fun _ => loadN h id g off fin n fun vs => ifK (okB vs) fun _ => readF h (toP E) fun qs => k' ((sv a, vs) :: qs) := fun _ => rfl
    rw [e] at hk
    rcases vL_ok hk with ⟨_, h1⟩ | ⟨id, g, off, len, fin, cap, hv, hk1⟩
    · exact Bool.noConfusion h1
    subst hv
    rcases natC_ok hk1 with ⟨hl, hk2⟩ | ⟨m, hl, hk2⟩
    · subst hl
      obtain ⟨X, rfl, x1, x2⟩ := readF_ok hk2
      refine ⟨(a, .l id g off 0 fin cap, []) :: X, rfl, fun z hz => ?_, fun k' => by rw [e, vL_l, natC_zero, x2]; rfl⟩
      rcases List.mem_cons.1 hz with e1 | e1
      · rw [e1]; exact ⟨.inl ⟨rfl, _, _, _, _, _, rfl⟩, Nat.zero_le _⟩
      · exact x1 z e1
    · subst hl
      obtain ⟨b1, hk3⟩ := ifK_ok hk2
      obtain ⟨b2, hk4⟩ := ifK_ok hk3
      obtain ⟨vs, c1, c2, c3, c4⟩ := loadN_un hk4
      rw [c1] at hk4
      obtain ⟨b3, hk5⟩ := ifK_ok hk4
      obtain ⟨bs, rfl⟩ := okB_ok b3
      rw [List.length_map] at c2
      obtain ⟨X, rfl, x1, x2⟩ := readF_ok hk5
      refine ⟨(a, .l id g off (m + 1) fin cap, bs) :: X, rfl, fun z hz => ?_, fun k' => by rw [e, vL_l, natC_succ, b1, ifK_true, b2, ifK_true, c1, b3, ifK_true, x2]; rfl⟩
      rcases List.mem_cons.1 hz with e1 | e1
      · rw [e1]
        refine ⟨.inr ⟨id, g, off, fin, cap, by rw [c2], (by show off + bs.length ≤ fin; omega), Nat.le_of_ble_eq_true b2, c4⟩, ?_⟩
        show bs.length ≤ _
        rw [c2]; exact Nat.le_of_ble_eq_true b1
      · exact x1 z e1
theorem newFs_ok {eb : Nat} {s : B} : ∀ {X : Bs} {h : H} {k : List (V × V) → H → Bool}, newFs eb s (rdB X) h k = true → ∃ qs h', (∀ k', newFs eb s (rdB X) h k' = k' qs h') ∧ KeepF h h' ∧ B.val h.next ≤ B.val h'.next ∧
    ∀ ρ w w0 l os L, HRel ρ h w w0 → RFs w eb X l os → (∀ o ∈ os, ∀ b, o = some b → (∀ id g L, ρ id g = some L → L.b ≠ b) ∧ w0.heap.size ≤ b) → os.Pairwise opa → ρ s 0 = some L → L.s = 0 →
      ∃ ρ', Ext h.floor ρ ρ' ∧ F2 ρ' qs l ∧ (∀ id g L, ρ' id g = some L → (∃ o ∈ os, o = some L.b) ∨ ρ id g = some L) ∧ HRel ρ' h' w w0
  | [], h, k, _ => ⟨[], h, fun _ => rfl, KeepF.refl h, Nat.le_refl _, fun ρ w w0 l os L R f _ _ _ _ => by
      cases f
      exact ⟨ρ, Ext.refl _ ρ, .nil, fun _ _ _ h => .inr h, R⟩⟩
  | (a, bs) :: X, h, k, hk => by
    have e : ∀ k', newFs eb s (rdB ((a, bs) :: X)) h k' = natC (bs.map bv).length (fun _ => newFs eb s (rdB X) h fun qs h => k' ((sv a, .l s 0 0 0 0 (some 0)) :: qs) h) fun n => alloc eb (bs.map bv) h fun id h => newFs eb s (rdB X) h fun qs h => k' ((sv a, .l id 0 0 n n none) :: qs) h := fun _ => rfl
    rw [e] at hk
    rcases natC_ok hk with ⟨hl, hk1⟩ | ⟨m, hl, hk1⟩
    · have hb : bs = [] := by rw [List.length_map] at hl; exact List.length_eq_zero_iff.1 hl
      subst hb
      obtain ⟨qs, h', a1, a2, a3, a4⟩ := newFs_ok hk1
      refine ⟨(sv a, .l s 0 0 0 0 (some 0)) :: qs, h', fun k' => by rw [e]; show newFs eb s (rdB X) h _ = _; rw [a1], a2, a3, fun ρ w w0 l os L R f fr pw hL hs => ?_⟩
      cases f with
      | cons f1 f2 f3 =>
        obtain ⟨ρ', q1, q2, q3, q4⟩ := a4 ρ w w0 _ _ L R f3 (fun o ho => fr o (List.mem_cons_of_mem _ ho)) (List.pairwise_cons.1 pw).2 hL hs
        refine ⟨ρ', q1, .cons (f1 ρ') ?_ q2, fun id g L hL => (q3 id g L hL).imp_left fun ⟨o, ho, e⟩ => ⟨o, List.mem_cons_of_mem _ ho, e⟩, q4⟩
        generalize hx : MapEntry.val _ = x at f2
        cases f2 with
        | nil ad =>
          exact ⟨L, ad, 0, q1.1 _ _ _ hL, rfl, Nat.le_refl _, by omega, Nat.zero_le _, .inl ⟨rfl, .inr rfl⟩, fun d hd _ => (by cases hd; rfl), fun hu => absurd hu (Unk.no (by decide))⟩
        | cons h0 _ _ _ _ _ => exact absurd rfl h0
    · have hb : bs ≠ [] := by intro e; rw [e] at hl; simp at hl
      have hpos : 0 < bs.length := List.length_pos_iff.2 hb
      obtain ⟨h1, b1, b2, b3, b4⟩ := adopt_ok hk1
      rw [b1] at hk1
      obtain ⟨qs, h', a1, a2, a3, a4⟩ := newFs_ok hk1
      refine ⟨(sv a, .l h.next 0 0 bs.length bs.length none) :: qs, h', fun k' => by rw [e, hl, natC_succ, b1, a1, ← hl, List.length_map], b2.trans b3 a2, Nat.le_trans b3 a3, fun ρ w w0 l os L R f fr pw hL hs => ?_⟩
      cases f with
      | cons f1 f2 f3 =>
        obtain ⟨p1, p2⟩ := List.pairwise_cons.1 pw
        generalize hx : MapEntry.val _ = x at f2
        cases f2 with
        | nil ad => exact absurd rfl hb
        | cons h0 g1 g2 g3 g4 g5 =>
          rename_i b cap c fz
          obtain ⟨fb1, fb2⟩ := fr _ (List.mem_cons_self ..) _ rfl
          obtain ⟨ρ1, q1, q2, q3, q4⟩ := b4 ρ w w0 c b c.size fz R g1 g2 fb1 fb2 (by rw [List.length_map]; omega) rfl (fun i v y hv hy => g5 i v y hv hy ρ)
          have le1 := q1.1
          have key : ∀ o ∈ _, ∀ b', o = some b' → (∀ id g L, ρ1 id g = some L → L.b ≠ b') ∧ w0.heap.size ≤ b' := fun o ho b' hb' => by
            obtain ⟨u1, u2⟩ := fr o (List.mem_cons_of_mem _ ho) b' hb'
            refine ⟨fun id g L hL e => ?_, u2⟩
            rcases q3 id g L hL with h2 | h2
            · exact p1 o ho b rfl (by rw [hb', ← e, h2])
            · exact u1 id g L h2 e
          obtain ⟨ρ', r1, r2, r3, r4⟩ := a4 ρ1 w w0 _ _ L q4 f3 key p2 (le1 _ _ _ hL) hs
          · rw [b2.1] at r1
            refine ⟨ρ', q1.trans r1, .cons (f1 ρ') ?_ r2, fun id g L hL => ?_, r4⟩
            · refine ⟨_, ⟨b, 0, none⟩, cap, r1.1 _ _ _ q2, hx, g3, Nat.le_refl _, by rw [List.length_map]; exact Nat.le_refl _, .inr rfl, fun d hd => (by cases hd), fun _ => .inr ⟨1, Nat.le_refl _, by omega, ?_, fun d hd => (by cases hd)⟩⟩
              show 0 - 0 + cap * 1 ≤ c.size
              omega
            · rcases r3 id g L hL with ⟨o, ho, e⟩ | h1
              · exact .inl ⟨o, List.mem_cons_of_mem _ ho, e⟩
              · rcases q3 id g L h1 with h2 | h2
                · exact .inl ⟨_, List.mem_cons_self .., by rw [h2]⟩
                · exact .inr h2
/-- a map that lies there already comes to be known as a new one -/
theorem newMap_ok {qs : List (V × V)} {h : H} {k : B → H → Bool} (hk : newMap qs h k = true) : ∃ h', (∀ k', newMap qs h k' = k' h.next h') ∧ KeepF h h' ∧ B.val h.next ≤ B.val h'.next ∧
    ∀ ρ w w0 (b0 : Nat) es clock, HRel ρ h w w0 → w.heap[b0]? = some (.map es clock) → (∀ id g L, ρ id g = some L → L.b ≠ b0) → w0.heap.size ≤ b0 → MapP ρ qs es clock →
      ∃ ρ', Ext h.floor ρ ρ' ∧ ρ' h.next 0 = some ⟨b0, 0, 0, 0, none⟩ ∧ (∀ id g L, ρ' id g = some L → L.b = b0 ∨ ρ id g = some L) ∧ HRel ρ' h' w w0 := by
  obtain ⟨next, floor, heap⟩ := h
  have e : ∀ k', newMap qs ⟨next, floor, heap⟩ k' = setList (flat2 qs) 0 .o fun t => T.setK next ⟨0, 7, 0, t, qs.length, 0⟩ heap fun heap => B.incK next fun next' => k' next ⟨next', floor, heap⟩ := fun _ => rfl
  rw [e] at hk
  obtain ⟨t, h1, h2, h3⟩ := setList_ok _ _ _ _ hk
  obtain ⟨hp, h4, h5, h6⟩ := setK_ok next (⟨0, 7, 0, t, qs.length, 0⟩ : Blk) heap
  obtain ⟨nx, h7, h8⟩ := incK_ok next
  refine ⟨⟨nx, floor, hp⟩, fun k' => by rw [e, h1, h4, h7], ⟨rfl, fun hf id hid => h6 id (fun e => by rw [e] at hid; exact absurd hf (Nat.not_le.2 hid))⟩, by show B.val next ≤ B.val nx; omega, fun ρ w w0 b0 es clock R hb0 hu h00 hm => ?_⟩
  have hnone : ρ next 0 = none := by
    cases hr : ρ next 0 with
    | none => rfl
    | some L => have := R.ids _ _ _ hr; exact absurd this (Nat.lt_irrefl _)
  have hne : ∀ id g L, ρ id g = some L → ¬ (id = next) := fun id g L hr he => by
    have := R.ids _ _ _ hr; rw [he] at this; exact absurd this (Nat.lt_irrefl _)
  have hle := Emb.put_le (⟨b0, 0, 0, 0, none⟩ : Ev.Loc) hnone
  have hcase : ∀ {id g L}, ρ.put next 0 ⟨b0, 0, 0, 0, none⟩ id g = some L → (id = next ∧ g = 0 ∧ L = ⟨b0, 0, 0, 0, none⟩) ∨ ρ id g = some L := by
    intro id g L hL
    by_cases e : id = next ∧ g = 0
    · left; obtain ⟨rfl, rfl⟩ := e; rw [Emb.put_same] at hL; exact ⟨rfl, rfl, (Option.some.inj hL).symm⟩
    · right; rwa [Emb.put_other _ _ _ _ e] at hL
  have hrd : RdP t qs.length qs := ⟨rfl, fun i kv hi => by
    obtain ⟨a1, a2⟩ := flat2_get qs i kv hi
    have b1 := h2 _ _ a1
    have b2 := h2 _ _ a2
    rw [Nat.zero_add] at b1 b2
    exact ⟨b1, b2⟩⟩
  refine ⟨ρ.put next 0 ⟨b0, 0, 0, 0, none⟩, Ext.put hnone R.flo, Emb.put_same _ _ _ _, fun id g L hL => (hcase hL).imp (fun e => by rw [e.2.2]) (fun e => e), ?_⟩
  refine ⟨fun id g L hL => ?_, fun id g L hL => ?_, fun id g L id' g' L' hL hL' hb => ?_, ?_, fun b hb => ?_, fun id g L hL hf => ?_, R.tp, R.os, R.out, R.siz, fun id L blk hL hblk kc hm2 => ?_, R.ito.of fun id g L blk hL hblk hg hm2 => ?_⟩
  · rcases hcase hL with ⟨rfl, rfl, rfl⟩ | hL
    · exact ⟨_, h5, Nat.le_refl _, (Array.getElem?_eq_some_iff.1 hb0).1, Nat.le_refl _, fun _ => Nat.le_refl _, fun _ => rfl, fun hm => by have hm : 7 ≤ 0 := hm; omega⟩
    · obtain ⟨blk, a1, a2, a3, a4, a5, a6, a7⟩ := R.loc _ _ _ hL
      refine ⟨blk, (h6 id (hne _ _ _ hL)).trans a1, a2, a3, a4, a5, a6, fun hm => ?_⟩
      obtain ⟨c', el', b1, b2, b3, b4⟩ := a7 hm
      refine ⟨c', el', b1, b2, b3, fun i i1 i2 => ?_⟩
      obtain ⟨v, x, d1, d2, d3⟩ := b4 i i1 i2
      exact ⟨v, x, d1, d2, VRel.up hle _ _ d3⟩
  · show B.val id < B.val nx
    rcases hcase hL with ⟨rfl, rfl, rfl⟩ | hL
    · rw [h8]; exact Nat.lt_succ_self _
    · have : B.val id < B.val next := R.ids _ _ _ hL
      rw [h8]; omega
  · rcases hcase hL with ⟨i1, i2, i3⟩ | hM <;> rcases hcase hL' with ⟨j1, j2, j3⟩ | hM'
    · exact ⟨i1.trans j1.symm, by rw [i3, j3]⟩
    · exact absurd (by rw [← hb, i3]) (hu _ _ _ hM')
    · exact absurd (by rw [hb, j3]) (hu _ _ _ hM)
    · exact R.sep _ _ _ _ _ _ hM hM' hb
  · show B.val floor ≤ B.val nx
    have : B.val floor ≤ B.val next := R.flo
    rw [h8]; omega
  · exact R.old b hb
  · rcases hcase hL with ⟨rfl, rfl, rfl⟩ | hL
    · exact h00
    · exact R.up _ _ _ hL hf
  · rcases hcase hL with ⟨rfl, _, rfl⟩ | hL
    · have hb2 : hp.get id = some blk := hblk
      rw [h5] at hb2
      have hb3 := Option.some.inj hb2
      subst hb3
      cases kc with
      | true => exact absurd hm2 (by show ¬ 7 = 0 + 11; decide)
      | false => exact ⟨_, hb0, es, clock, rfl, qs, hrd, hm.up hle⟩
    · obtain ⟨_, _, _, a3, _⟩ := R.loc _ _ _ hL
      obtain ⟨o, q1, q2⟩ := R.mp id L blk hL ((h6 id (hne _ _ _ hL)).symm.trans hblk) kc hm2
      exact ⟨o, q1, q2.up hle⟩
  · rcases hcase hL with ⟨rfl, _, rfl⟩ | hL
    · have hb2 : hp.get id = some blk := hblk
      rw [h5] at hb2
      have hb3 := Option.some.inj hb2
      subst hb3
      exact absurd hm2 (by show ¬ 7 = 0 + 9; decide)
    · exact ⟨hL, (h6 id (hne _ _ _ hL)).symm.trans hblk, rfl⟩
theorem room_i {a : V} (h : isRoom a = true) : ∃ x, a = .i .i64 x := by
  cases a <;> try exact Bool.noConfusion h
  rename_i kd n
  cases kd <;> first | exact ⟨n, rfl⟩ | exact Bool.noConfusion h
theorem l0_i {a : V} (h : isL0 a = true) : a = .l0 := by cases a <;> first | rfl | exact Bool.noConfusion h
theorem bo_i {a : V} (h : isBo a = true) : ∃ x, a = .b x := by cases a <;> first | exact ⟨_, rfl⟩ | exact Bool.noConfusion h
theorem txt_sv {v : V} (h : isTxt v = true) : ∃ bs, v = sv bs := by
  cases v <;> try exact Bool.noConfusion h
  exact key_sv h
theorem okActs_ok : ∀ {n : Nat} {vs : List V}, okActs n vs = true → ∃ U : List AC, U.length = n ∧ vs = U.flatMap actC
  | 0, vs, h => by
    have h : vs.isEmpty = true := h
    exact ⟨[], rfl, List.isEmpty_iff.1 h⟩
  | n + 1, vs, h => by
    have h : act1 vs (okActs n) = true := h
    match vs, h with
    | a :: b :: c :: d :: e :: f :: r, h =>
      have h : (ifK (isRoom a) fun _ => ifK (isTxt b) fun _ => ifK (isTxt c) fun _ => ifK (isRoom d) fun _ => ifK (isL0 e) fun _ => ifK (isBo f) fun _ => okActs n r) = true := h
      obtain ⟨h1, g1⟩ := ifK_ok h
      obtain ⟨h2, g2⟩ := ifK_ok g1
      obtain ⟨h3, g3⟩ := ifK_ok g2
      obtain ⟨h4, g4⟩ := ifK_ok g3
      obtain ⟨h5, g5⟩ := ifK_ok g4
      obtain ⟨h6, g6⟩ := ifK_ok g5
      obtain ⟨U, u1, rfl⟩ := okActs_ok g6
      obtain ⟨kd, rfl⟩ := room_i h1
      obtain ⟨fr, rfl⟩ := room_i h4
      obtain ⟨nm, rfl⟩ := txt_sv h2
      obtain ⟨od, rfl⟩ := txt_sv h3
      obtain rfl := l0_i h5
      obtain ⟨hd, rfl⟩ := bo_i h6
      exact ⟨⟨kd, nm, od, fr, hd⟩ :: U, by simp [u1], rfl⟩
theorem newLo_ok {ea : Nat} {U : List AC} {h : H} {k : V → H → Bool} (hk : newLo ea U.length (U.flatMap actC) h k = true) : ∃ v h', (∀ k', newLo ea U.length (U.flatMap actC) h k' = k' v h') ∧ KeepF h h' ∧ B.val h.next ≤ B.val h'.next ∧
    ∀ ρ w w0 y o, HRel ρ h w w0 → LF w ea U y o → (∀ b, o = some b → (∀ id g L, ρ id g = some L → L.b ≠ b) ∧ w0.heap.size ≤ b) →
      ∃ ρ', Ext h.floor ρ ρ' ∧ VRel ρ' v y ∧ (∀ id g L, ρ' id g = some L → o = some L.b ∨ ρ id g = some L) ∧ HRel ρ' h' w w0 := by
  have e : ∀ k', newLo ea U.length (U.flatMap actC) h k' = natC U.length (fun _ => k' .l0 h) fun n => fN (Nat.mul n 6) fun z => alloc ea (U.flatMap actC) h fun q h => k' (.l q 0 0 n z none) h := fun _ => rfl
  rw [e] at hk
  have hlen := fm_len actC_len U
  rcases natC_ok hk with ⟨hl, _⟩ | ⟨m, hl, hk1⟩
  · have hU : U = [] := List.length_eq_zero_iff.1 hl
    subst hU
    refine ⟨.l0, h, fun k' => rfl, KeepF.refl h, Nat.le_refl _, fun ρ w w0 y o R f _ => ?_⟩
    cases f with
    | nil => exact ⟨ρ, Ext.refl _ ρ, rfl, fun _ _ _ h => .inr h, R⟩
    | cons h0 _ _ _ _ _ => exact absurd rfl h0
  · have hU : U ≠ [] := by intro e; rw [e] at hl; simp at hl
    have hpos : 0 < U.length := List.length_pos_iff.2 hU
    rw [fN_eq] at hk1
    obtain ⟨h1, b1, b2, b3, b4⟩ := adopt_ok hk1
    refine ⟨.l h.next 0 0 U.length (U.length * 6) none, h1, fun k' => by rw [e, hl, natC_succ, fN_eq, b1]; rfl, b2, b3, fun ρ w w0 y o R f fr => ?_⟩
    cases f with
    | nil => exact absurd rfl hU
    | cons h0 g1 g2 g3 g4 g5 =>
      rename_i b cap c fz
      obtain ⟨fb1, fb2⟩ := fr _ rfl
      obtain ⟨ρ1, q1, q2, q3, q4⟩ := b4 ρ w w0 c b c.size fz R g1 g2 fb1 fb2 (by omega) rfl (fun i v y hv hy => g5 i v y hv hy ρ)
      refine ⟨ρ1, q1, ⟨_, ⟨b, 0, none⟩, cap, q2, rfl, g3, Nat.le_refl _, by rw [hlen]; exact Nat.le_refl _, .inr rfl, fun d hd => (by cases hd), fun _ => .inr ⟨6, by omega, by omega, ?_, fun d hd => (by cases hd)⟩⟩, fun id g L hL => (q3 id g L hL).imp_left fun e => by rw [e], q4⟩
      show 0 - 0 + cap * 6 ≤ c.size
      omega
/-- the copy: what is reckoned is what the program makes -/
theorem copyE_ok {h : H} {s : B} {rm : Int} {mp lo : V} {E : En} {U : List AC} {k : V → H → Bool} (hk : copyE 5 201 115 s (.i .i64 rm) U.length (U.flatMap actC) (toP E) h k = true)
    (hrow : Row h s 0 0 [.i .i64 rm, mp, lo]) (hs : B.val s < B.val h.next) (hf : B.val h.floor ≤ B.val h.next) (hE : E.length ≤ 1000) (hU : U.length ≤ 10000) (hmp : (mp = .m0 ∧ E = []) ∨ ∃ id, mp = .m id ∧ MapB h id E)
    (hlo : Ss 6 actC h lo U) (hnn : lo ≠ .l0 → U ≠ []) :
    FnOk Tryz.prog 50 [.p s 0 0 3] h fun y h' => ∀ k', copyE 5 201 115 s (.i .i64 rm) U.length (U.flatMap actC) (toP E) h k' = k' y h' := by
  have e0 : ∀ k', copyE 5 201 115 s (.i .i64 rm) U.length (U.flatMap actC) (toP E) h k' = (readF h (toP E) fun qs => newFs 5 s qs h fun rs h1 => newMap rs h1 fun cm h2 => newLo 201 U.length (U.flatMap actC) h2 fun lo h3 => alloc 115 [.i .i64 rm, .m cm, lo] h3 fun c h4 => k' (.p c 0 0 3) h4) := fun _ => rfl
  have hk0 := hk
  rw [e0] at hk0
  obtain ⟨X, rfl, x1, x2⟩ := readF_ok hk0
  rw [x2] at hk0
  obtain ⟨rs, h1, y1, y2, y3, y4⟩ := newFs_ok hk0
  rw [y1] at hk0
  obtain ⟨h2, z1, z2, z3, z4⟩ := newMap_ok hk0
  rw [z1] at hk0
  obtain ⟨lv, h3, t1, t2, t3, t4⟩ := newLo_ok hk0
  rw [t1] at hk0
  obtain ⟨h4, u1, u2, u3, u4⟩ := adopt_ok hk0
  have S : SrcR (reFloor h).next (reFloor h) s mp lo X U rm := by
    obtain ⟨next, floor, heap⟩ := h
    refine ⟨hrow, ?_, hlo, hnn, fun z hz => (x1 z hz).1.re, hs, fun q hq => ?_⟩
    · rcases hmp with ⟨rfl, e⟩ | ⟨id, rfl, m⟩
      · exact .inl ⟨rfl, by unfold vCs at e; exact List.map_eq_nil_iff.1 e⟩
      · exact .inr ⟨id, rfl, ⟨m.blk, m.lt, m.nod⟩, m.lt⟩
    · rcases hlo with ⟨e, _⟩ | ⟨id, g, off, fin, cap, e, _, hl, _⟩
      · rw [e] at hq; obtain ⟨_, _, _, _, _, e⟩ := hq; cases e
      · rw [e] at hq; obtain ⟨_, _, _, _, _, e⟩ := hq; cases e; exact hl
  rw [len_Cs] at hE
  have cp := copy_n S hE hU (fun z hz => (x1 z hz).2) (by rw [reFloor_floor, reFloor_next]; exact Nat.le_refl _)
  refine ⟨.p h3.next 0 0 3, h4, ⟨((y2.trans y3 z2).trans (Nat.le_trans y3 z3) t2).trans (Nat.le_trans (Nat.le_trans y3 z3) t3) u2, Nat.le_trans y3 (Nat.le_trans z3 (Nat.le_trans t3 u3)), fun ρ w w0 args hl R => ?_⟩, fun k' => by rw [e0, x2, y1, z1, t1, u1]⟩
  obtain ⟨b1, b2⟩ := cp ρ w w args hl (Dn.re R) R.refloor
  refine ⟨b1, b2.mono fun e w' ⟨x, y, g, e1, ⟨c, cm, lo', Z, hy, C, hp⟩, kf, _, ρ', q1, q2, q3⟩ => ⟨x, e1, ?_⟩⟩
  subst hy
  have R2 : HRel ρ h w' w0 := R.grow q3.old q3.siz q3.tp q3.os q3.out
  obtain ⟨bS, bM, cS, fS, es, clock, l, os, yl, ol, K⟩ := copy_real (N := w.heap.size) q3 C (fun id g' L hL hi => q3.up id g' L hL (by rw [kf.1, reFloor_floor]; rw [reFloor_next] at hi; exact hi)) q2 hp
  have hlt : ∀ id g L, ρ id g = some L → L.b < w.heap.size := fun id g L hL => by obtain ⟨_, _, _, a3, _⟩ := R.loc _ _ _ hL; exact a3
  have hsL : ∃ L, ρ s 0 = some L ∧ L.s = 0 := by
    cases args with
    | nil => cases hl
    | cons a r =>
      obtain ⟨⟨L, l1, l2, l3, l4⟩, _⟩ := hl
      exact ⟨L, l1, by omega⟩
  obtain ⟨L, hL, hLs⟩ := hsL
  obtain ⟨ρ1, f1, f2, f3, f4⟩ := y4 ρ w' w0 l os L R2 K.rf (fun o ho b hb => ⟨fun id g L hL e => (by have h1 := hlt id g L hL; have h2 := (K.fr o ho b hb).1; omega), Nat.le_trans R.siz (K.fr o ho b hb).1⟩) K.pw hL hLs
  obtain ⟨ρ2, g1, g2, g3, g4⟩ := z4 ρ1 w' w0 bM es clock f4 K.m (fun id g L hL e => by
    rcases f3 id g L hL with ⟨o, ho, h1⟩ | h1
    · exact (K.fr o ho _ h1).2.2 e
    · have h2 := hlt id g L h1
      have h3 := K.nM
      omega) (Nat.le_trans R.siz K.nM) ⟨⟨l, K.p, f2⟩, K.st⟩
  obtain ⟨ρ3, j1, j2, j3, j4⟩ := t4 ρ2 w' w0 yl ol g4 K.lf (fun b hb => ⟨fun id g L hL e => by
    obtain ⟨k1, k2, k3, k4⟩ := K.fl b hb
    rcases g3 id g L hL with h1 | h1
    · exact k3 (e.symm.trans h1)
    · rcases f3 id g L h1 with ⟨o, ho, h1⟩ | h1
      · rw [h1, e] at ho; exact k4 ho
      · have h2 := hlt id g L h1
        omega, Nat.le_trans R.siz (K.fl b hb).1⟩)
  obtain ⟨ρ4, i1, i2, i3, i4⟩ := u4 ρ3 w' w0 cS bS cS.size fS j4 K.s K.fz (fun id g L hL e => by
    rcases j3 id g L hL with h1 | h1
    · exact (K.fl _ h1).2.1 e
    rcases g3 id g L h1 with h1 | h1
    · exact K.ne (e.symm.trans h1)
    · rcases f3 id g L h1 with ⟨o, ho, h1⟩ | h1
      · exact (K.fr o ho _ h1).2.1 e
      · have h2 := hlt id g L h1
        have h3 := K.nS
        omega) (Nat.le_trans R.siz K.nS) K.n rfl (fun i v y hv hy => by
    match i, hv with
    | 0, hv => cases hv; exact K.s0 y hy
    | 1, hv => cases hv; exact ⟨_, j1.1 _ _ _ g2, K.s1 y hy⟩
    | 2, hv => cases hv; rw [K.s2 y hy]; exact j2)
  rw [y2.1] at g1
  rw [z2.1, y2.1] at j1
  rw [t2.1, z2.1, y2.1] at i1
  exact ⟨ρ4, f1.trans (g1.trans (j1.trans i1)), ⟨_, i2, K.x, Nat.le_refl _, Nat.le_refl _⟩, i4⟩
theorem copy_sp : SpOk Tryz.prog 50 (copyS 5 201 115) := by
  refine sp_of_fn fun vs h k hk => ?_
  have hk0 : (ifK (fin3 vs) fun _ => shelfK vs h fun s a m c => copyA 5 201 115 s a m c h k) = true := hk
  obtain ⟨h0, hk1⟩ := ifK_ok hk0
  obtain ⟨s, fin, a, m, c, hvs, hf3, r, e⟩ := shelfK_ok hk1
  subst hvs
  rw [e] at hk1
  have hfin : fin = 3 := by
    match fin, h0 with
    | 3, _ => rfl
  subst hfin
  have e1 : ∀ k', copyS 5 201 115 [.p s 0 0 3] h k' = copyA 5 201 115 s a m c h k' := fun k' => e fun s a m c => copyA 5 201 115 s a m c h k'
  have e2 : ∀ k', copyA 5 201 115 s a m c h k' = (ifK (isRoom a) fun _ => ifK (Nat.ble (B.val s + 1) (B.val h.next)) fun _ => ifK (Nat.ble (B.val h.floor) (B.val h.next)) fun _ => copyL c h fun n ls => copyM 5 201 115 s a m n ls h k') := fun _ => rfl
  rw [e2] at hk1
  obtain ⟨c1, hk2⟩ := ifK_ok hk1
  obtain ⟨rm, rfl⟩ := room_i c1
  obtain ⟨c2, hk4⟩ := ifK_ok hk2
  obtain ⟨c3, hk5⟩ := ifK_ok hk4
  have hs : B.val s < B.val h.next := Nat.le_of_ble_eq_true c2
  have hf : B.val h.floor ≤ B.val h.next := Nat.le_of_ble_eq_true c3
  obtain ⟨U, l1, l2, l3, l4⟩ : ∃ U : List AC, (∀ k', copyL c h k' = k' U.length (U.flatMap actC)) ∧ U.length ≤ 10000 ∧ Ss 6 actC h c U ∧ (c ≠ .l0 → U ≠ []) := by
    have e3 : ∀ k', copyL c h k' = vL c (fun _ => k' 0 []) fun id g off len fin _ => natC len (fun _ => false) fun n => ifK (Nat.ble n 10000) fun _ => ifK (Nat.ble (B.val id + 1) (B.val h.next)) fun _ => loadN h id g off fin (Nat.mul n 6) fun vs => ifK (okActs n vs) fun _ => k' n vs := fun _ => rfl
    rw [e3] at hk5
    rcases vL_ok hk5 with ⟨hc, _⟩ | ⟨id, g, off, len, fin, cap, hc, a2⟩
    · subst hc
      exact ⟨[], fun _ => rfl, Nat.zero_le _, .inl ⟨rfl, rfl⟩, fun h => absurd rfl h⟩
    · subst hc
      rcases natC_ok a2 with ⟨_, h1⟩ | ⟨n, hl, a3⟩
      · exact Bool.noConfusion h1
      subst hl
      obtain ⟨b1, a4⟩ := ifK_ok a3
      obtain ⟨b2, a5⟩ := ifK_ok a4
      obtain ⟨vs, d1, d2, d3, d4⟩ := loadN_un a5
      rw [d1] at a5
      obtain ⟨b3, _⟩ := ifK_ok a5
      obtain ⟨U, hU, rfl⟩ := okActs_ok b3
      refine ⟨U, fun k' => by rw [e3, vL_l, natC_succ, b1, ifK_true, b2, ifK_true, d1, b3, ifK_true, hU], by rw [hU]; exact Nat.le_of_ble_eq_true b1, .inr ⟨id, g, off, fin, cap, by rw [hU], ?_, Nat.le_of_ble_eq_true b2, d4⟩, fun _ e => by rw [e] at hU; simp at hU⟩
      have d3 : off + (n + 1) * 6 ≤ fin := d3
      rw [hU]; exact d3
  rw [l1] at hk5
  have e3 : ∀ k', copyS 5 201 115 [.p s 0 0 3] h k' = copyM 5 201 115 s (.i .i64 rm) m U.length (U.flatMap actC) h k' := fun k' => by
    rw [e1, e2, c1, ifK_true, c2, ifK_true, c3, ifK_true, l1]
  cases m <;> try exact Bool.noConfusion hk5
  · have hk6 : copyE 5 201 115 s (.i .i64 rm) U.length (U.flatMap actC) (toP []) h k = true := hk5
    refine (copyE_ok hk6 r hs hf (Nat.zero_le _) l2 (.inl ⟨rfl, rfl⟩) l3 l4).mono fun y h' hy k' => ?_
    rw [e3]; exact hy k'
  · rename_i mid
    have e4 : ∀ k', copyM 5 201 115 s (.i .i64 rm) (.m mid) U.length (U.flatMap actC) h k' = ifK (Nat.ble (B.val mid + 1) (B.val h.next)) fun _ => mapK h mid fun _ _ _ _ _ _ _ ps => ifK (okPs ps) fun _ => ifK (Nat.ble ps.length 1000) fun _ => copyE 5 201 115 s (.i .i64 rm) U.length (U.flatMap actC) ps h k' := fun _ => rfl
    rw [e4] at hk5
    obtain ⟨hlt, hk6⟩ := ifK_ok hk5
    obtain ⟨next, floor, heap, cur, min, size, fr, ps, q1, q2, q3⟩ := mapB_of hk6 hlt
    obtain ⟨hok, q4⟩ := ifK_ok q2
    obtain ⟨hps, q5⟩ := ifK_ok q4
    obtain ⟨E, rfl, n1, n2⟩ := okPs_ok hok
    have hE : E.length ≤ 1000 := by
      have := Nat.le_of_ble_eq_true hps
      unfold toP at this
      rwa [List.length_map] at this
    refine (copyE_ok q5 r hs hf hE l2 (.inr ⟨mid, rfl, q3 E rfl n1⟩) l3 l4).mono fun y h' hy k' => ?_
    rw [e3, e4, hlt, ifK_true, q1, hok, ifK_true, hps, ifK_true]
    exact hy k'
end Go.Proofs.YtiokhkainaodnaaGreatDoor

namespace Go.Proofs
open Go.Shelf
def Tryz.keys69_ren : Go.Shelf.Ren := ⟨fun | 7 => 69 | 10 => 154 | n => n, fun | 23 => 100 | 26 => 3 | 3 => 3 | 28 => 141 | 0 => 0 | 27 => 140 | 33 => 238 | 4 => 4 | n => n, fun | n => n⟩
theorem Tryz.keys69 : Go.Proofs.SlLaysZI.n7 Tryz.prog Tryz.keys69_ren := {
  mixed := by kernel_rfl
  f7 := ⟨Tryz.f69.name, by decide, Tryz.func69.trans (congrArg some (by kernel_rfl))⟩
  f10 := ⟨Tryz.f154.name, by decide, Tryz.func154.trans (congrArg some (by kernel_rfl))⟩
  t0 := Tryz.underlying0
  a0 := Tryz.isAgg0
  z0 := Tryz.sizeOf0
  v0 := Tryz.zeroValue0
  t4 := Tryz.underlying4
  a4 := Tryz.isAgg4
  z4 := Tryz.sizeOf4
  v4 := Tryz.zeroValue4
  t23 := Tryz.underlying100
  a23 := Tryz.isAgg100
  z23 := Tryz.sizeOf100
  v23 := Tryz.zeroValue100
  t26 := Tryz.underlying3
  a26 := Tryz.isAgg3
  z26 := Tryz.sizeOf3
  v26 := Tryz.zeroValue3
  t27 := Tryz.underlying140
  a27 := Tryz.isAgg140
  z27 := Tryz.sizeOf140
  v27 := Tryz.zeroValue140
  t28 := Tryz.underlying141
  a28 := Tryz.isAgg141
  z28 := Tryz.sizeOf141
  v28 := Tryz.zeroValue141
  t33 := Tryz.underlying238
  a33 := Tryz.isAgg238
  z33 := Tryz.sizeOf238
  v33 := Tryz.zeroValue238 }
def Tryz.sorted68_ren : Go.Shelf.Ren := ⟨fun | 6 => 68 | 8 => 152 | 9 => 153 | 11 => 227 | 13 => 205 | 12 => 228 | 23 => 267 | 24 => 268 | 14 => 285 | 15 => 286 | 16 => 287 | 17 => 288 | 18 => 289 | 19 => 290 | 20 => 291 | 21 => 292 | 22 => 293 | 25 => 329 | 26 => 317 | 27 => 318 | 28 => 330 | 29 => 331 | 30 => 269 | 31 => 357 | n => n, fun | 26 => 3 | 28 => 141 | 24 => 125 | 0 => 0 | 3 => 3 | 37 => 276 | 48 => 330 | 50 => 312 | 4 => 4 | 40 => 340 | 39 => 339 | 45 => 256 | 5 => 5 | 9 => 9 | 51 => 384 | 55 => 388 | 57 => 419 | 58 => 80 | 33 => 238 | n => n, fun | n => n⟩
theorem Tryz.sorted68 : Go.Proofs.SlLaysZI.n6 Tryz.prog Tryz.sorted68_ren := {
  mixed := by kernel_rfl
  f6 := ⟨Tryz.f68.name, by decide, Tryz.func68.trans (congrArg some (by kernel_rfl))⟩
  f8 := ⟨Tryz.f152.name, by decide, Tryz.func152.trans (congrArg some (by kernel_rfl))⟩
  f11 := ⟨Tryz.f227.name, by decide, Tryz.func227.trans (congrArg some (by kernel_rfl))⟩
  t0 := Tryz.underlying0
  a0 := Tryz.isAgg0
  z0 := Tryz.sizeOf0
  v0 := Tryz.zeroValue0
  t24 := Tryz.underlying125
  a24 := Tryz.isAgg125
  z24 := Tryz.sizeOf125
  v24 := Tryz.zeroValue125
  t26 := Tryz.underlying3
  a26 := Tryz.isAgg3
  z26 := Tryz.sizeOf3
  v26 := Tryz.zeroValue3
  t28 := Tryz.underlying141
  a28 := Tryz.isAgg141
  z28 := Tryz.sizeOf141
  v28 := Tryz.zeroValue141
  i26 := by kernel_rfl }
def Tryz.sort153_ren : Go.Shelf.Ren := ⟨fun | 5 => 153 | 8 => 205 | 7 => 228 | 19 => 267 | 20 => 268 | 10 => 285 | 11 => 286 | 12 => 287 | 13 => 288 | 14 => 289 | 15 => 290 | 16 => 291 | 17 => 292 | 18 => 293 | 30 => 329 | 31 => 317 | 32 => 318 | 33 => 330 | 34 => 331 | 35 => 269 | 40 => 357 | n => n, fun | 23 => 125 | 25 => 3 | 3 => 3 | 32 => 276 | 22 => 125 | 0 => 0 | 44 => 330 | 46 => 312 | 4 => 4 | 36 => 340 | 35 => 339 | 41 => 256 | 5 => 5 | 9 => 9 | 53 => 384 | 57 => 388 | 63 => 419 | 64 => 80 | n => n, fun | n => n⟩
theorem Tryz.sort153 : Go.Proofs.SlLaysM.n5 Tryz.prog Tryz.sort153_ren := {
  mixed := by kernel_rfl
  f5 := ⟨Tryz.f153.name, by decide, Tryz.func153.trans (congrArg some (by kernel_rfl))⟩
  f7 := ⟨Tryz.f228.name, by decide, Tryz.func228.trans (congrArg some (by kernel_rfl))⟩
  f8 := Tryz.func205.trans (congrArg some (by kernel_rfl))
  f10 := ⟨Tryz.f285.name, by decide, Tryz.func285.trans (congrArg some (by kernel_rfl))⟩
  f11 := ⟨Tryz.f286.name, by decide, Tryz.func286.trans (congrArg some (by kernel_rfl))⟩
  f12 := ⟨Tryz.f287.name, by decide, Tryz.func287.trans (congrArg some (by kernel_rfl))⟩
  f13 := ⟨Tryz.f288.name, by decide, Tryz.func288.trans (congrArg some (by kernel_rfl))⟩
  f14 := ⟨Tryz.f289.name, by decide, Tryz.func289.trans (congrArg some (by kernel_rfl))⟩
  f15 := ⟨Tryz.f290.name, by decide, Tryz.func290.trans (congrArg some (by kernel_rfl))⟩
  f16 := ⟨Tryz.f291.name, by decide, Tryz.func291.trans (congrArg some (by kernel_rfl))⟩
  f17 := ⟨Tryz.f292.name, by decide, Tryz.func292.trans (congrArg some (by kernel_rfl))⟩
  f18 := ⟨Tryz.f293.name, by decide, Tryz.func293.trans (congrArg some (by kernel_rfl))⟩
  f19 := Tryz.func267.trans (congrArg some (by kernel_rfl))
  f20 := Tryz.func268.trans (congrArg some (by kernel_rfl))
  f30 := ⟨Tryz.f329.name, by decide, Tryz.func329.trans (congrArg some (by kernel_rfl))⟩
  f31 := Tryz.func317.trans (congrArg some (by kernel_rfl))
  f32 := Tryz.func318.trans (congrArg some (by kernel_rfl))
  f33 := ⟨Tryz.f330.name, by decide, Tryz.func330.trans (congrArg some (by kernel_rfl))⟩
  f34 := ⟨Tryz.f331.name, by decide, Tryz.func331.trans (congrArg some (by kernel_rfl))⟩
  f35 := ⟨Tryz.f269.name, by decide, Tryz.func269.trans (congrArg some (by kernel_rfl))⟩
  f40 := ⟨Tryz.f357.name, by decide, Tryz.func357.trans (congrArg some (by kernel_rfl))⟩
  t0 := Tryz.underlying0
  a0 := Tryz.isAgg0
  z0 := Tryz.sizeOf0
  v0 := Tryz.zeroValue0
  t3 := Tryz.underlying3
  a3 := Tryz.isAgg3
  z3 := Tryz.sizeOf3
  v3 := Tryz.zeroValue3
  t4 := Tryz.underlying4
  a4 := Tryz.isAgg4
  z4 := Tryz.sizeOf4
  v4 := Tryz.zeroValue4
  t5 := Tryz.underlying5
  a5 := Tryz.isAgg5
  z5 := Tryz.sizeOf5
  v5 := Tryz.zeroValue5
  t9 := Tryz.underlying9
  a9 := Tryz.isAgg9
  z9 := Tryz.sizeOf9
  v9 := Tryz.zeroValue9
  t22 := Tryz.underlying125
  a22 := Tryz.isAgg125
  z22 := Tryz.sizeOf125
  v22 := Tryz.zeroValue125
  t23 := Tryz.underlying125
  a23 := Tryz.isAgg125
  z23 := Tryz.sizeOf125
  v23 := Tryz.zeroValue125
  t25 := Tryz.underlying3
  a25 := Tryz.isAgg3
  z25 := Tryz.sizeOf3
  v25 := Tryz.zeroValue3
  t32 := Tryz.underlying276
  a32 := Tryz.isAgg276
  z32 := Tryz.sizeOf276
  v32 := Tryz.zeroValue276
  t35 := Tryz.underlying339
  a35 := Tryz.isAgg339
  z35 := Tryz.sizeOf339
  v35 := Tryz.zeroValue339
  t36 := Tryz.underlying340
  a36 := Tryz.isAgg340
  z36 := Tryz.sizeOf340
  v36 := Tryz.zeroValue340
  t41 := Tryz.underlying256
  a41 := Tryz.isAgg256
  z41 := Tryz.sizeOf256
  v41 := Tryz.zeroValue256
  t44 := Tryz.underlying330
  a44 := Tryz.isAgg330
  z44 := Tryz.sizeOf330
  v44 := Tryz.zeroValue330
  t46 := Tryz.underlying312
  a46 := Tryz.isAgg312
  z46 := Tryz.sizeOf312
  v46 := Tryz.zeroValue312
  t53 := Tryz.underlying384
  a53 := Tryz.isAgg384
  z53 := Tryz.sizeOf384
  v53 := Tryz.zeroValue384
  t57 := Tryz.underlying388
  a57 := Tryz.isAgg388
  z57 := Tryz.sizeOf388
  v57 := Tryz.zeroValue388
  t63 := Tryz.underlying419
  a63 := Tryz.isAgg419
  z63 := Tryz.sizeOf419
  v63 := Tryz.zeroValue419
  t64 := Tryz.underlying80
  a64 := Tryz.isAgg80
  z64 := Tryz.sizeOf80
  v64 := Tryz.zeroValue80 }
end Go.Proofs

set_option maxRecDepth 100000
set_option maxHeartbeats 8000000
set_option linter.all false
namespace Go.Proofs.YtiokhkainaodnaaGreatDoor
open Go Go.Ev
abbrev Ni := List (Nat × V)
def nv (n : Nat) : V := .i .i64 (.ofNat n)
def toN (E : Ni) : List (V × V) := E.map fun p => (nv p.1, p.2)
noncomputable def natOf : V → (Nat → Bool) → Bool
  | .i .i64 (.ofNat n), k => ifK (Nat.ble n 4611686018427387903) fun _ => k n
  | _, _ => false
noncomputable def okPi (ps : List (V × V)) : Bool := List.rec true (fun p _ ih => Prod.rec (fun a _ => natOf a fun _ => ih) p) ps
noncomputable def insI (n : Nat) (r : List V) : (List V → Bool) → Bool :=
  List.rec (fun k => k [nv n]) (fun v r ih k => natOf v fun m => boolK (Nat.ble n m) (fun _ => k (nv n :: v :: r)) fun _ => ih fun r' => k (v :: r')) r
noncomputable def sortI (ps : List (V × V)) : (List V → Bool) → Bool :=
  List.rec (fun k => k []) (fun p _ ih k => ih fun r => Prod.rec (fun a _ => natOf a fun n => insI n r k) p) ps
noncomputable def sortedI2 (el : Nat) (m : V) (h : H) (k : V → H → Bool) : Bool := vM m (fun _ => k .l0 h) fun id =>
  ifK (Nat.ble (B.val id + 1) (B.val h.next)) fun _ => ifK (Nat.ble (B.val h.floor) (B.val h.next)) fun _ => mapK h id fun _ _ _ _ _ _ _ ps => ifK (okPi ps) fun _ => ifK (Nat.ble ps.length 10000) fun _ => sortI ps fun vs => natC vs.length (fun _ => k .l0 h) fun n => alloc el vs h fun id h => k (.l id 0 0 n n none) h
noncomputable def sortedI1 (el : Nat) (cs : List V) (h : H) (k : V → H → Bool) : Bool := match cs with
  | [p] => vP p fun q g off fin => ifK (Nat.beq g 0) fun _ => ifK (Nat.beq off 0) fun _ => ifK (Nat.beq fin 1) fun _ => load1 h q 0 0 1 fun m => sortedI2 el m h k
  | _ => false
noncomputable def sortedIS (fk el : Nat) : Sp := fun args h k => match args with
  | [v] => vF v fun f cs => ifK (Nat.beq f fk) fun _ => sortedI1 el cs h k
  | _ => false
def sortKI (E : Ni) : List Int := (E.map fun p => (p.1 : Int)).mergeSort leI
theorem natOf_ok {v : V} {k : Nat → Bool} (h : natOf v k = true) : ∃ n, v = nv n ∧ n ≤ 4611686018427387903 ∧ k n = true ∧ ∀ k', natOf v k' = k' n := by
  cases v <;> try exact Bool.noConfusion h
  rename_i kd z
  cases kd <;> try exact Bool.noConfusion h
  cases z with
  | negSucc n => exact Bool.noConfusion h
  | ofNat n =>
    have h' : (ifK (Nat.ble n 4611686018427387903) fun _ => k n) = true := h
    obtain ⟨h1, h2⟩ := ifK_ok h'
    exact ⟨n, rfl, Nat.le_of_ble_eq_true h1, h2, fun k' => by show (ifK (Nat.ble n 4611686018427387903) fun _ => k' n) = _; rw [h1, ifK_true]⟩
theorem okPi_ok : ∀ {ps : List (V × V)}, okPi ps = true → ∃ E : Ni, ps = toN E ∧ ∀ p ∈ E, p.1 ≤ 4611686018427387903
  | [], _ => ⟨[], rfl, fun p hp => by cases hp⟩
  | (a, v) :: r, h => by
    have h' : (natOf a fun _ => okPi r) = true := h
    obtain ⟨n, rfl, h1, h2, _⟩ := natOf_ok h'
    obtain ⟨E, rfl, e2⟩ := okPi_ok h2
    exact ⟨(n, v) :: E, rfl, fun p hp => by
      rcases List.mem_cons.1 hp with e | e
      · rw [e]; exact h1
      · exact e2 p e⟩
theorem natOf_nv {n : Nat} (h : n ≤ 4611686018427387903) (k : Nat → Bool) : natOf (nv n) k = k n := by
  show (ifK (Nat.ble n 4611686018427387903) fun _ => k n) = _
  rw [show Nat.ble n 4611686018427387903 = true by rw [Nat.ble_eq]; exact h, ifK_true]
theorem insI_ok : ∀ (L : List Nat) (a : Nat), (∀ x ∈ L, x ≤ 4611686018427387903) → (L.Pairwise fun x y => x ≤ y) → ∃ L' : List Nat, (∀ k : List V → Bool, insI a (L.map nv) k = k (L'.map nv)) ∧ L'.Perm (a :: L) ∧ L'.Pairwise fun x y => x ≤ y
  | [], a, _, hp => ⟨[a], fun _ => rfl, .refl _, List.pairwise_singleton ..⟩
  | b :: L, a, hb, hp => by
    have e : ∀ k : List V → Bool, insI a ((b :: L).map nv) k = natOf (nv b) fun m => boolK (Nat.ble a m) (fun _ => k (nv a :: nv b :: L.map nv)) fun _ => insI a (L.map nv) fun r' => k (nv b :: r') := fun _ => rfl
    obtain ⟨h1, h2⟩ := List.pairwise_cons.1 hp
    have hb1 := hb b (List.mem_cons_self ..)
    cases hab : Nat.ble a b with
    | true =>
      have hab' : a ≤ b := Nat.le_of_ble_eq_true hab
      refine ⟨a :: b :: L, fun k => by rw [e, natOf_nv hb1, hab, boolK_true]; rfl, .refl _, List.pairwise_cons.2 ⟨fun x hx => ?_, hp⟩⟩
      rcases List.mem_cons.1 hx with e1 | e1
      · rw [e1]; exact hab'
      · exact Nat.le_trans hab' (h1 x e1)
    | false =>
      have hab' : b ≤ a := by
        rcases Nat.le_total a b with h | h
        · rw [← Nat.ble_eq, hab] at h; cases h
        · exact h
      obtain ⟨L', i1, i2, i3⟩ := insI_ok L a (fun x hx => hb x (List.mem_cons_of_mem _ hx)) h2
      refine ⟨b :: L', fun k => by rw [e, natOf_nv hb1, hab, boolK_false, i1]; rfl, (i2.cons b).trans (List.Perm.swap a b L), List.pairwise_cons.2 ⟨fun x hx => ?_, i3⟩⟩
      rcases List.mem_cons.1 (i2.mem_iff.1 hx) with e1 | e1
      · rw [e1]; exact hab'
      · exact h1 x e1
theorem sortI_ok : ∀ (E : Ni), (∀ p ∈ E, p.1 ≤ 4611686018427387903) → ∃ L : List Nat, (∀ k : List V → Bool, sortI (toN E) k = k (L.map nv)) ∧ L.Perm (E.map (·.1)) ∧ L.Pairwise fun x y => x ≤ y
  | [], _ => ⟨[], fun _ => rfl, .refl _, .nil⟩
  | (a, v) :: E, hb => by
    obtain ⟨L, h1, h2, h3⟩ := sortI_ok E fun p hp => hb p (List.mem_cons_of_mem _ hp)
    have hL : ∀ x ∈ L, x ≤ 4611686018427387903 := fun x hx => by
      obtain ⟨p, hp, rfl⟩ := List.mem_map.1 (h2.mem_iff.1 hx)
      exact hb p (List.mem_cons_of_mem _ hp)
    obtain ⟨L', g1, g2, g3⟩ := insI_ok L a hL h3
    refine ⟨L', fun k => ?_, g2.trans (h2.cons a), g3⟩
    have e : sortI (toN ((a, v) :: E)) k = sortI (toN E) fun r => natOf (nv a) fun n => insI n r k := rfl
    rw [e, h1, natOf_nv (hb _ (List.mem_cons_self ..)), g1]
theorem sortI_eq (E : Ni) (hb : ∀ p ∈ E, p.1 ≤ 4611686018427387903) : ∃ L : List Nat, (∀ k : List V → Bool, sortI (toN E) k = k (L.map nv)) ∧ L.map (fun n : Nat => (n : Int)) = sortKI E := by
  obtain ⟨L, h1, h2, h3⟩ := sortI_ok E hb
  refine ⟨L, h1, ?_⟩
  unfold sortKI
  have hp : (L.map fun n : Nat => (n : Int)).Perm (E.map fun p => (p.1 : Int)) := by
    have := h2.map fun n : Nat => (n : Int)
    rwa [List.map_map] at this
  rw [← mergeSort_of_perm_i hp]
  refine (List.mergeSort_of_pairwise (List.pairwise_map.2 (h3.imp fun {a b} h => ?_))).symm
  simp only [leI, decide_eq_true_eq]
  exact Int.ofNat_le.2 h
structure MapN (h : H) (id : B) (E : Ni) : Prop where
  blk : ∃ b, h.heap.get id = some b ∧ b.min = b.cur + 7 ∧ RdP b.cells b.el (toN E)
theorem wfN {n : Nat} (hl : n ≤ 4611686018427387903) : (Lit.int .i64 (n : Int)).wf = true := by
  simp only [Lit.wf, Bool.and_eq_true, decide_eq_true_eq]
  exact ⟨by show (-9223372036854775808 : Int) ≤ n; omega, by show (n : Int) ≤ 9223372036854775807; omega⟩
theorem rd_keyI {ρ : Emb} {n : Nat} {e : MapEntry} (h : VRel ρ (nv n) e.key) (hl : n ≤ 4611686018427387903) : Go.WideElems.rd Tryz.prog 3 rNil e = some (.int .i64 (n : Int), .nil) := by
  have h1 : e.key = .int .i64 (n : Int) := h
  unfold Go.WideElems.rd
  rw [h1]
  have hw : (Lit.int .i64 (n : Int)).wf = true := wfN hl
  have : keyOf Tryz.prog 3 (.int .i64 (n : Int)) = some (.int .i64 (n : Int)) := Go.Maps.keyOf_int_mk Tryz.underlying3 hw
  rw [this]; rfl
theorem rds_keysI {ρ : Emb} : ∀ {E : Ni} {l : List MapEntry}, F2 ρ (toN E) l → (∀ p ∈ E, p.1 ≤ 4611686018427387903) → l.map (Go.WideElems.rg Tryz.prog 3 rNil) = E.map (fun p => (Lit.int .i64 (p.1 : Int), DataW.nil)) ∧ ∀ x ∈ l, ∃ y, Go.WideElems.rd Tryz.prog 3 rNil x = some y
  | [], _, .nil, _ => ⟨rfl, fun x h => by cases h⟩
  | p :: E, _, .cons a b c, hk => by
    obtain ⟨h1, h2⟩ := rds_keysI c fun q hq => hk q (List.mem_cons_of_mem _ hq)
    have h3 := rd_keyI a (hk p (List.mem_cons_self ..))
    refine ⟨?_, fun x hx => ?_⟩
    · rw [List.map_cons, List.map_cons, h1]
      unfold Go.WideElems.rg
      rw [h3]; rfl
    · rcases List.mem_cons.1 hx with rfl | hx
      · exact ⟨_, h3⟩
      · exact h2 x hx
theorem ownsMapI_of {ρ : Emb} {w : World} {b : Nat} {E : Ni} {es : Array MapEntry} {clock : Nat} (hb : w.heap[b]? = some (.map es clock)) (m : MapP ρ (toN E) es clock) (hk : ∀ p ∈ E, p.1 ≤ 4611686018427387903) (hs : es.size ≤ maxLen) :
    ∃ D0 : DataW Unit, w.ownsMap Tryz.prog 3 rNil b es.size D0 ∧ (intKeys D0).Perm (E.map fun p => (p.1 : Int)) ∧ Go.Maps.size D0 = E.length := by
  obtain ⟨l, l1, l2⟩ := m.rel
  obtain ⟨r1, r2⟩ := rds_keysI l2 hk
  have p1 : ((es.toList.map (Go.WideElems.rg Tryz.prog 3 rNil)).foldr DataW.insert []).Perm (E.map (fun p => (Lit.int .i64 (p.1 : Int), DataW.nil))) := by
    rw [← r1]
    exact (foldr_perm _).trans (l1.symm.map _)
  refine ⟨_, ⟨es, clock, hb, ⟨hs, m.st, fun x hx => r2 x (l1.mem_iff.2 hx)⟩, Nat.le_refl _, rfl⟩, ?_, ?_⟩
  · have := p1.map (fun p => _root_.Go.intOf p.1)
    refine this.trans ?_
    rw [List.map_map]
    exact .refl _
  · have := p1.length_eq
    rw [List.length_map] at this
    exact this
open Go.RowKit Go.Shelf in
theorem sortsCI (m : Nat) : AnyZI.SortsIn Tryz.prog Tryz.sorted68_ren Fence.wide m :=
  ⟨fun blk off cap ss W hH hblk hsz => callsIn_wide.2 (AnyM.slices_Sort_int Tryz.sort153 blk off cap ss W hH hblk hsz), fun p cap W => callsIn_wide.2 (AnyM.slices_Sort_int_none Tryz.sort153 p cap W)⟩
theorem sortedI_ok {h : H} {q id : B} {E : Ni} {SL : List Nat} (hSL : SL.map (fun n : Nat => (n : Int)) = sortKI E) (r : Row h q 0 0 [.m id]) (m : MapN h id E) (hk : ∀ p ∈ E, p.1 ≤ 4611686018427387903) (hE : E.length ≤ 10000) (hf : B.val h.floor ≤ B.val h.next) :
    FnOk Tryz.prog 68 [.f 154 [.p q 0 0 1]] h fun y h' => (E = [] → y = .l0 ∧ h' = h) ∧ (E ≠ [] → y = .l h.next 0 0 E.length E.length none ∧ ∀ k, alloc 3 (SL.map nv) h k = k h.next h') := by
  have main : ∀ ρ w w0 args, LRel ρ [.f 154 [.p q 0 0 1]] args → HRel ρ h w w0 →
      (callFunc 68 args.toArray).run Tryz.prog w = .ok (.enter 68 args.toArray) w ∧ Calls Tryz.prog 68 args.toArray w fun e w' => ∃ v, e = .returned v ∧
        w'.ownsRow w.heap.size 3 1 v E.length ((sortKI E).map encZ) ∧ (E = [] → v = .slice none 0 0) ∧ Go.RowKit.Below w.heap.size w w' := by
    intro ρ w w0 args hl R
    obtain ⟨x, rfl, arr, rfl, hp⟩ : ∃ x, args = [x] ∧ ∃ arr, x = .func (.func 154) #[] arr ∧ LRel ρ [.p q 0 0 1] arr.toList := by
      cases args with
      | nil => cases hl
      | cons x r =>
        obtain ⟨⟨arr, h1, h2⟩, hr⟩ := hl
        cases r with
        | cons _ _ => cases hr
        | nil => exact ⟨x, rfl, arr, h1, h2⟩
    obtain ⟨L, hL, rfl, hs⟩ : ∃ L, ρ q 0 = some L ∧ arr = #[.pointer (some ⟨L.b, 0, none⟩)] ∧ L.s = 0 ∧ 1 ≤ L.e := by
      obtain ⟨al⟩ := arr
      cases al with
      | nil => cases hp
      | cons y r =>
        obtain ⟨⟨L, h1, h2, h3, h4⟩, hr⟩ := hp
        cases r with
        | cons _ _ => cases hr
        | nil =>
          have hs : L.s = 0 := by omega
          refine ⟨L, h1, ?_, hs, h4⟩
          rw [h2, hs]
    obtain ⟨v1, e1, g1⟩ := load1_ok (h := h) (id := q) (g := 0) (off := 0) (fin := 1) (k := fun _ => true) (by rw [load1_cell (r.2 0 (.m id) rfl) (by omega)])
    have ev1 : v1 = .m id := by
      have := e1 fun u => @decide (u = .m id) (Classical.propDecidable _)
      rw [load1_cell (r.2 0 (.m id) rfl) (by omega)] at this
      simp at this
      exact this
    subst ev1
    obtain ⟨x, hx, hcell⟩ := g1 ρ w w0 L R hL (by omega) hs.2
    obtain ⟨LM, hLM, rfl⟩ := hx
    obtain ⟨blk, m1, m2, m3⟩ := m.blk
    obtain ⟨es, clock, w1, ps, w2, w3⟩ := R.mp.map id LM blk hLM m1 m2
    obtain rfl := RdP.uniq w2 m3
    obtain ⟨l, l1, l2⟩ := w3.rel
    have hes : es.size = E.length := by
      have h1 := l2.length
      have h2 := l1.length_eq
      unfold toN at h1
      rw [List.length_map] at h1
      simp at h2
      omega
    obtain ⟨D0, d1, d2, d3⟩ := ownsMapI_of w1 w3 hk (by rw [hes]; exact Nat.le_trans hE (by decide))
    have hbl : L.b < w.heap.size := by obtain ⟨_, _, _, a3, _⟩ := R.loc _ _ _ hL; exact a3
    have hseq : SeqGives Fence.wide 2 Tryz.prog 154 #[.pointer (some ⟨L.b, 0, none⟩)] encZ (fun ss => ss.Perm (intKeys D0)) (Go.Maps.size D0) w :=
      AnyZI.keys_gives (ρ := Tryz.keys69_ren) { Tryz.keys69 with } Fence.wide 2 trivial rfl (by omega) L.b LM.b es.size D0 _ hbl (by rw [hs.1] at hcell; exact hcell) d1
    have := AnyZI.sorted_in Tryz.sorted68 Fence.wide 5 trivial trivial trivial trivial rfl (by omega) (sortsCI _) (enters_of Tryz.func153 (by kernel_rfl) rfl) 154 #[.pointer (some ⟨L.b, 0, none⟩)] trivial (enters_of Tryz.func154 (by kernel_rfl) rfl) _ (Go.Maps.size D0) (by rw [d3]; exact Nat.le_trans hE (by decide)) (by rw [d3]; omega) w hseq
    refine ⟨enters_of Tryz.func68 (by kernel_rfl) rfl _ _, (callsIn_wide.1 this).mono fun e w' ⟨v, ss, e1, hS, hrow, hnil, hb⟩ => ⟨v, e1, ?_, fun hE => hnil.2 ?_, hb⟩⟩
    · have hp : ss.Perm (E.map fun p => (p.1 : Int)) := hS.trans d2
      have hl : ss.length = E.length := by rw [hp.length_eq, List.length_map]
      rw [hl, mergeSort_of_perm_i hp] at hrow
      exact hrow
    · have hp : ss.Perm (E.map fun p => (p.1 : Int)) := hS.trans d2
      rw [hE] at hp
      exact List.perm_nil.1 hp
  have hlen : SL.length = E.length := by
    have := congrArg List.length hSL
    rw [List.length_map] at this
    rw [this]; unfold sortKI; rw [List.length_mergeSort, List.length_map]
  by_cases hz : E = []
  · subst hz
    refine ⟨.l0, h, ⟨KeepF.refl h, Nat.le_refl _, fun ρ w w0 args hl R => ?_⟩, fun _ => ⟨rfl, rfl⟩, fun e => absurd rfl e⟩
    obtain ⟨c1, c2⟩ := main ρ w w0 args hl R
    refine ⟨c1, c2.mono fun e w' ⟨v, e1, hr, hn, hb⟩ => ⟨v, e1, ρ, Ext.refl _ ρ, hn rfl, R.grow hb.block hb.size hb.tape hb.os hb.output⟩⟩
  · obtain ⟨h', a1, a2, a3, blk, b1, b2, b3, b4, b5, b6, b7⟩ := alloc_new 3 (SL.map nv) h (by rw [List.length_map]; omega)
    obtain ⟨h2, c1, c2, c3, c4⟩ := adopt_ok (el := 3) (cs := SL.map nv) (h := h) (k := fun _ _ => true) (by rw [a1])
    have e2 : h2 = h' := by
      have := c1 fun _ u => @decide (u = h') (Classical.propDecidable _)
      rw [a1] at this
      simp at this
      exact this
    subst e2
    refine ⟨.l h.next 0 0 E.length E.length none, h2, ⟨c2, c3, fun ρ w w0 args hl R => ?_⟩, fun e => absurd e hz, fun _ => ⟨rfl, c1⟩⟩
    obtain ⟨d1, d2⟩ := main ρ w w0 args hl R
    refine ⟨d1, d2.mono fun e w' ⟨v, e1, hr, _, hb⟩ => ?_⟩
    have R' := R.grow hb.block hb.size hb.tape hb.os hb.output
    rcases hr.2 with ⟨_, h0⟩ | ⟨g, cap, cur, rfl, hg, hc, hn, hcap, hsz, htk⟩
    · exact absurd (List.length_eq_zero_iff.1 h0) hz
    have hval : ∀ (i : Nat) v x, (SL.map nv)[i]? = some v → cur[i]? = some x → VRel ρ v x := by
      intro i v x hv hx
      have hi : i < SL.length := by
        rcases Nat.lt_or_ge i SL.length with h | h
        · exact h
        · rw [List.getElem?_eq_none (by rw [List.length_map]; exact h)] at hv; cases hv
      have h1 : ((sortKI E).map encZ)[i]? = some x := by
        rw [← htk, List.getElem?_take_of_lt (by rw [Nat.mul_one, ← hlen]; exact hi)]
        simpa using hx
      rw [← hSL, List.map_map, List.getElem?_map, List.getElem?_eq_getElem hi] at h1
      rw [List.getElem?_map, List.getElem?_eq_getElem hi] at hv
      cases hv
      cases h1
      rfl
    obtain ⟨ρ', q1, q2, _, q3⟩ := c4 ρ w' w0 cur g cur.size _ R' hc rfl (fun id g' L hL e => by obtain ⟨_, _, _, a3, _⟩ := R.loc _ _ _ hL; omega) (Nat.le_trans R.siz hg) (by rw [List.length_map, hlen]; omega) rfl hval
    refine ⟨_, e1, ρ', q1, ⟨_, _, _, q2, rfl, hn, Nat.le_refl _, ?_, .inr rfl, fun d hd => (by cases hd), fun _ => .inr ⟨1, Nat.le_refl _, by omega, (by show 0 - 0 + cap * 1 ≤ cur.size; omega), fun d hd => (by cases hd)⟩⟩, q3⟩
    show E.length ≤ (SL.map nv).length
    rw [List.length_map, hlen]; exact Nat.le_refl _
theorem sortedI_nil {h : H} {q : B} (r : Row h q 0 0 [.m0]) :
    FnOk Tryz.prog 68 [.f 154 [.p q 0 0 1]] h fun y h' => y = .l0 ∧ h' = h := by
  refine ⟨.l0, h, ⟨KeepF.refl h, Nat.le_refl _, fun ρ w w0 args hl R => ?_⟩, rfl, rfl⟩
  obtain ⟨x, rfl, arr, rfl, hp⟩ : ∃ x, args = [x] ∧ ∃ arr, x = .func (.func 154) #[] arr ∧ LRel ρ [.p q 0 0 1] arr.toList := by
    cases args with
    | nil => cases hl
    | cons x r =>
      obtain ⟨⟨arr, h1, h2⟩, hr⟩ := hl
      cases r with
      | cons _ _ => cases hr
      | nil => exact ⟨x, rfl, arr, h1, h2⟩
  obtain ⟨L, hL, rfl, hs⟩ : ∃ L, ρ q 0 = some L ∧ arr = #[.pointer (some ⟨L.b, 0, none⟩)] ∧ L.s = 0 ∧ 1 ≤ L.e := by
    obtain ⟨al⟩ := arr
    cases al with
    | nil => cases hp
    | cons y r =>
      obtain ⟨⟨L, h1, h2, h3, h4⟩, hr⟩ := hp
      cases r with
      | cons _ _ => cases hr
      | nil =>
        have hs : L.s = 0 := by omega
        refine ⟨L, h1, ?_, hs, h4⟩
        rw [h2, hs]
  obtain ⟨v1, e1, g1⟩ := load1_ok (h := h) (id := q) (g := 0) (off := 0) (fin := 1) (k := fun _ => true) (by rw [load1_cell (r.2 0 .m0 rfl) (by omega)])
  have ev1 : v1 = .m0 := by
    have := e1 fun u => @decide (u = .m0) (Classical.propDecidable _)
    rw [load1_cell (r.2 0 .m0 rfl) (by omega)] at this
    simp at this
    exact this
  subst ev1
  obtain ⟨x, hx, hcell⟩ := g1 ρ w w0 L R hL (by omega) hs.2
  have hx : x = .map none := hx
  subst hx
  have hbl : L.b < w.heap.size := by obtain ⟨_, _, _, a3, _⟩ := R.loc _ _ _ hL; exact a3
  have hseq : SeqGives Fence.wide 2 Tryz.prog 154 #[.pointer (some ⟨L.b, 0, none⟩)] encZ (fun ss : List Int => ss = []) 0 w :=
    AnyZI.keys_gives_nil (ρ := Tryz.keys69_ren) { Tryz.keys69 with } Fence.wide 2 trivial rfl L.b w hbl (by rw [hs.1] at hcell; exact hcell)
  have := AnyZI.sorted_in Tryz.sorted68 Fence.wide 5 trivial trivial trivial trivial rfl (by omega) (sortsCI _) (enters_of Tryz.func153 (by kernel_rfl) rfl) 154 #[.pointer (some ⟨L.b, 0, none⟩)] trivial (enters_of Tryz.func154 (by kernel_rfl) rfl) _ 0 (Nat.zero_le _) (by omega) w hseq
  exact ⟨enters_of Tryz.func68 (by kernel_rfl) rfl _ _, (callsIn_wide.1 this).mono fun e w' ⟨v, ss, e1, hS, hrow, hnil, hb⟩ => ⟨v, e1, ρ, Ext.refl _ ρ, hnil.2 hS, R.grow hb.block hb.size hb.tape hb.os hb.output⟩⟩
theorem mapN_of {h : H} {id : B} {k : B → B → T Blk → Nat → Nat → Nat → Nat → List (V × V) → Bool} (hk : mapK h id k = true) : ∃ next floor heap cur min size fr ps, (∀ k', mapK h id k' = k' next floor heap cur min size fr ps) ∧ k next floor heap cur min size fr ps = true ∧
    ∀ E, ps = toN E → MapN h id E := by
  obtain ⟨next, floor, heap, cur, min, size, cells, n, fr, ps, rfl, hb, hm, hp, hK⟩ := mapK_ok hk
  refine ⟨next, floor, heap, cur, min, size, fr, ps, hK, by rw [← hK k]; exact hk, fun E e => ⟨⟨_, hb, hm, by rw [← e]; exact hp⟩⟩⟩
theorem sortedI_sp : SpOk Tryz.prog 68 (sortedIS 154 3) := by
  refine sp_of_fn fun vs h k hk => ?_
  cases vs with
  | nil => exact Bool.noConfusion hk
  | cons v r =>
  cases r with
  | cons _ _ => exact Bool.noConfusion hk
  | nil =>
  have e : ∀ k', sortedIS 154 3 [v] h k' = vF v fun f cs => ifK (Nat.beq f 154) fun _ => sortedI1 3 cs h k' := fun _ => rfl
  rw [e] at hk
  obtain ⟨f, cs, hv, hk1⟩ := vF_ok hk
  subst hv
  clear hk
  obtain ⟨hf, hk⟩ := ifK_ok hk1
  clear hk1
  obtain rfl : f = 154 := Nat.eq_of_beq_eq_true hf
  cases cs with
  | nil => exact Bool.noConfusion hk
  | cons p r =>
  cases r with
  | cons _ _ => exact Bool.noConfusion hk
  | nil =>
  have e2 : ∀ k', sortedI1 3 [p] h k' = vP p fun q g off fin => ifK (Nat.beq g 0) fun _ => ifK (Nat.beq off 0) fun _ => ifK (Nat.beq fin 1) fun _ => load1 h q 0 0 1 fun m => sortedI2 3 m h k' := fun _ => rfl
  rw [e2] at hk
  obtain ⟨q, g, off, fin, hv, hk1⟩ := vP_ok hk
  subst hv
  clear hk
  obtain ⟨h1, hk2⟩ := ifK_ok hk1
  clear hk1
  obtain ⟨h2, hk3⟩ := ifK_ok hk2
  clear hk2
  obtain ⟨h3, hk⟩ := ifK_ok hk3
  clear hk3
  obtain rfl : g = 0 := Nat.eq_of_beq_eq_true h1
  obtain rfl : off = 0 := Nat.eq_of_beq_eq_true h2
  obtain rfl : fin = 1 := Nat.eq_of_beq_eq_true h3
  have hrow : ∃ m, Row h q 0 0 [m] ∧ ∀ k' : V → Bool, load1 h q 0 0 1 k' = k' m := by
    obtain ⟨next, floor, heap⟩ := h
    simp only [load1, hK_mk] at hk
    obtain ⟨⟨cur, min, size, cells, bel, fr⟩, hb, hk⟩ := optK_ok hk
    simp only [blkK_mk] at hk
    obtain ⟨hm, hk⟩ := ifK_ok hk
    obtain ⟨hf, hk⟩ := ifK_ok hk
    obtain ⟨m, hm2, hk⟩ := optK_ok hk
    refine ⟨m, ⟨fun _ => ⟨_, hb, Nat.le_of_ble_eq_true hm⟩, fun i y hy => ?_⟩, fun k' => by simp only [load1, hK_mk, hb, optK_some, blkK_mk, hm, ifK_true, hf, hm2, forceV_eq]⟩
    have hi : i = 0 := by
      have := (List.getElem?_eq_some_iff.1 hy).1; simp at this; exact this
    subst hi
    cases hy
    unfold cell cellB
    simp only [hb]
    rw [if_pos (Nat.le_of_ble_eq_true hm)]
    exact hm2
  obtain ⟨m, hr, hl⟩ := hrow
  rw [hl] at hk
  have e3 : ∀ k', sortedIS 154 3 [.f 154 [.p q 0 0 1]] h k' = sortedI2 3 m h k' := fun k' => by
    rw [e, vF_f, hf, ifK_true, e2]
    exact hl _
  cases m <;> try exact Bool.noConfusion hk
  · refine (sortedI_nil hr).mono ?_
    rintro y h' ⟨rfl, rfl⟩ k'
    rw [e3]; rfl
  · rename_i mid
    have e4 : ∀ k', sortedI2 3 (.m mid) h k' = (ifK (Nat.ble (B.val mid + 1) (B.val h.next)) fun _ => ifK (Nat.ble (B.val h.floor) (B.val h.next)) fun _ => mapK h mid fun _ _ _ _ _ _ _ ps => ifK (okPi ps) fun _ => ifK (Nat.ble ps.length 10000) fun _ => sortI ps fun vs => natC vs.length (fun _ => k' .l0 h) fun n => alloc 3 vs h fun id h => k' (.l id 0 0 n n none) h) := fun _ => rfl
    rw [e4] at hk
    obtain ⟨hlt, hk1⟩ := ifK_ok hk
    obtain ⟨hfl, hk2⟩ := ifK_ok hk1
    obtain ⟨next, floor, heap, cur, min, size, fr, ps, q1, q2, q3⟩ := mapN_of hk2
    obtain ⟨hok, q2⟩ := ifK_ok q2
    obtain ⟨hps, q2⟩ := ifK_ok q2
    obtain ⟨E, rfl, n2⟩ := okPi_ok hok
    obtain ⟨SL, g1, g2⟩ := sortI_eq E n2
    have hE : E.length ≤ 10000 := by
      have := Nat.le_of_ble_eq_true hps
      unfold toN at this
      rwa [List.length_map] at this
    refine (sortedI_ok g2 hr (q3 E rfl) n2 hE (Nat.le_of_ble_eq_true hfl)).mono ?_
    rintro y h' ⟨z0, z1⟩ k'
    rw [e3, e4, hlt, ifK_true, hfl, ifK_true, q1, hok, ifK_true, hps, ifK_true, g1]
    have hlen : (SL.map nv).length = E.length := by
      have := congrArg List.length g2
      rw [List.length_map] at this
      rw [List.length_map, this]; unfold sortKI; rw [List.length_mergeSort, List.length_map]
    rw [hlen]
    cases E with
    | nil => obtain ⟨rfl, rfl⟩ := z0 rfl; rfl
    | cons p r =>
      obtain ⟨rfl, a1⟩ := z1 (by simp)
      show alloc 3 _ h _ = _
      rw [a1]; rfl
end Go.Proofs.YtiokhkainaodnaaGreatDoor

set_option linter.all false
namespace Go.Ev
open Go
theorem u8_nat {a : Int} (h : (Lit.int .u8 a).wf = true) : ∃ n : Nat, n ≤ 255 ∧ a = (n : Int) := by
  have h' := h
  simp only [Lit.wf, IntKind.has, IntKind.min, IntKind.max, IntKind.signed, IntKind.bits] at h'
  simp at h'
  exact ⟨a.toNat, by omega, by omega⟩
/-- a uint8 of which only its rest by m matters -/
theorem arg_r {a : Int} (h : (Lit.int .u8 a).wf = true) (m : Nat) (hm : 0 < m) : ∃ i, i < m ∧ VRel noEmb (.r .u8 m i 255) (.int .u8 a) := by
  obtain ⟨n, hn, rfl⟩ := u8_nat h
  exact ⟨n % m, Nat.mod_lt _ hm, n, rfl, rfl, hn⟩
theorem arg_b (x : Bool) : VRel noEmb (.b x) (.bool x) := rfl
section
open Go.RowKit Go.WideShapes Go.ChangeShapes
variable {H : Type} {enc : TypeId × Value → H} {P : Program}
/-- THE ROW's LAST STEP, where of what was there nothing turned (new blocks may be frozen). -/
theorem post_kept {f : Func} {s : ChangeSpec} {apart fresh handsOn again : Bool} {W W' : World} {args : Array Value} {v : Value} {ds gs : List (DataW H)} {before pa pv : List MemPlace} (hb : Below W.heap.size W W')
    (hW : DataW.Whole enc P f.params.toList s.vars apart W args.toList ds gs before)
    (hres : ∀ (b : Nat) (sp : Nat → Bool) (hd : Bool), DataW.TrodAll enc P W' b sp hd f.resultTypes.toList (v.resultList f.resultTypes.size) (s.fn H (ds ++ gs)).results [])
    (hargs : ∀ sp : Nat → Bool, (∀ p ∈ before, sp p.block = true) → DataW.TrodAll enc P W' 0 sp true f.params.toList args.toList (s.fn H (ds ++ gs)).args pa)
    (hvars : ∀ sp : Nat → Bool, (∀ p ∈ before, sp p.block = true) → DataW.TrodVars enc P W' sp s.vars (s.fn H (ds ++ gs)).vars pv)
    (hps : before = pa ++ pv)
    (hok : ∀ (j : Nat) (t : TypeId) (r : Value), f.resultTypes[j]? = some t → (v.resultList f.resultTypes.size)[j]? = some r → Value.okWide P W' .any 0 t r) :
    s.post enc P f apart fresh handsOn again W args v W' := by
  have hlt := fun p hp => hW.lt p hp
  have hin : ∀ p ∈ before, (fun b => decide (b < W.heap.size)) p.block = true := fun p hp => decide_eq_true (hlt p hp)
  have hkept := hb.frame (· ∈ before)
  refine ⟨ds, gs, before, [], pa, pv, hW, hres _ _ _, hargs _ hin, hvars _ hin, World.keptBut_mono (fun p hp => ⟨hp, ?_⟩) hkept, fun _ => ?_⟩
  · have := hps ▸ hp
    exact .inr (List.mem_append.1 this)
  · obtain ⟨_, _, _, _, _, hz, hn⟩ := hW
    refine ⟨hok, _, _, ([] ++ pa) ++ pv, ⟨[] ++ pa, pv, trodAll_append (hargs _ fun _ _ => rfl) (hres _ _ _), hvars _ fun _ _ => rfl, rfl, fun b off hp => ?_, fun ha => ?_⟩, fun p hp _ => ?_⟩
    · have hp' : MemPlace.cell b off ∈ before := by rw [hps]; simpa using hp
      rw [hb.frozen (hlt _ hp')]
      exact hz b off hp'
    · have hn' := hn ha
      rw [hps] at hn'
      simpa using hn'
    · rw [hps]; simpa using hp
end
end Go.Ev

set_option maxRecDepth 1000000
set_option linter.all false
namespace Go.Proofs.YtiokhkainaodnaaGreatDoor
open Go Go.Ev
def hl : List (Nat × Nat) := [(0, 0), (0, 0), (1, 0), (1427204136562851540033181734646698370175859776, 89301072836097719663999968086696434147523648), (11417964357303733518323441979236898761114128384, 367962659024157001031654828175115013404233728), (182642928951404324602396473357169680343638211600, 112723297995869226888392686570053506238139408), (23378295232529269736355231592702228676274443776016, 14428603926839007686722522341454387880707878928), (10633823965969239871610487939714779136, 42192525328636460879390609420847104), (1298074213391576948150167702307328, 5169644934085609502040018354688), (383123885216472149767947844825458252435903298077189120, 6372925079439580595743146935421556429409012991124480), (11692013098647223345629477335860439881935010922494, 188580862424628979929354073335735136835147399166), (126091200, 84053184), (120, 8), (35993647006611456, 25579042284296192), (32760, 264), (327664, 8720), (140736414744552, 799937684584), (140737484144632, 16759182395384), (1916528, 264208), (1208925783587790659649536, 23628946092951775346688), (73778135637235376128, 36893630431095693312), (120, 8), (21267647932558634962744165276565110782, 1372151321199314683638552702241734654), (65528, 34360), (8727375640576, 1992866166784), (140668770973696, 6390912661504), (89202980794122492565830751811198777278070782, 2880236442053749223899249018631246831419390), (536870896, 67243056), (2016, 224), (16352, 2144), (23384026196954475863417181436546299331845872942976, 3769423022833308344046104148496231945576659287936), (131008, 6464), (134211568, 67617840), (131008, 6464), (248, 8), (131008, 6464), (32256, 13824), (1125891585342464, 110148881447936), (700974289082929629184, 73789228576027396096), (3968, 896), (480, 96), (2247401985277200, 149533727134992), (71481139882761387968, 2305843009222609984), (268435392, 8663744), (17179877248, 17179869568), (2046, 1294), (120, 8), (120, 8), (70368710590416, 9555369526992), (2191507055424, 68820468288), (13839310999779278848, 9223939384888262656), (256, 0), (1082332006272, 549755847296), (2147743968, 4128), (548816289536, 9507328), (8184, 520), (70360187772672, 850409031424), (128992, 33632), (16267264, 3145728), (1073596288, 537919744), (28, 4), (24, 8), (124655684472285240763635210203365376, 10631429057677993706563861676032), (2249601193147392, 32985483058176), (120, 8), (68186364968704, 2204928853248), (16777200, 3551984), (36027697626742784, 22950106207485952), (504, 344), (8, 0), (8795623257088, 4995089470464), (34359722496, 2424307712), (2197725827536288000, 1160521401992491264), (17179737856, 1075068672), (992, 416), (2251793253785600, 1807820467224576), (70368743914752, 35184372620544), (137036284928, 68766794752), (2199015800448, 1143535051904), (3968, 128), (7936, 256), (458876, 65540), (120, 8), (1099378456576, 20401328128), (992, 288), (17592178606016, 9049697553280), (4951759562234059906835545088, 349156499227611897407507456), (19807040610120466224583262208, 8747789647254983639807311872), (8523874240, 1677738048), (844427077614896, 844426008741168), (4092, 532), (248, 72), (248, 72), (248, 72), (36895739758254225408, 36893488422859085824), (140737488355072, 75351053075200), (248, 8), (2040, 72), (8383717439488, 4437239672832), (8598192128, 8591638528), (4294967232, 29573312), (68183654336, 13421789888), (528482304, 109051904), (576461301790800896, 576460752853091328), (262112, 143456), (120259085296, 17179869232), (992, 288), (120, 8), (248, 8), (2084800, 656320), (33554424, 540792), (34359725696, 31421106688), (4194048, 795392), (9218903621597657344, 157635612382365952), (590295810358701457536, 29539239849764061312), (504, 8), (8184, 552), (480, 96), (34353424352, 830800352), (131048, 1056), (248, 72), (248, 72), (496, 176), (1004, 0), (4194296, 128), (511936, 131904), (117440480, 3158112), (24, 0), (2040, 584), (0, 0), (0, 0), (24, 8), (37301460626752751193233157047585340448, 26814831450449302252330291125509152), (70334384504704, 721554508800), (28, 4), (120, 8), (488, 32), (0, 0), (16368, 5040), (1004, 0), (120, 8), (144115185913691696, 5146010771594288), (302229148215346573082544, 66150323871851034509232), (6, 0), (2361147212672163381184, 21329047842124601536), (18014278248562496, 16777280), (0, 0), (134203264, 67633408), (15039725568, 12884901888), (4269793280, 2150170624), (18445884255601925120, 9225625215891511296), (261664, 69664), (24, 8), (2044, 236), (12744, 8), (1008, 48), (480, 96), (58, 0), (248, 72), (4373350450752, 2482491098176), (34634633044480, 17592186454528), (1802232, 1048640), (0, 0), (1012, 0), (4468432435117056, 4186942569841664), (4294942592, 1109790080), (323552, 32), (4294966792, 2278045184), (147573948178744999488, 21333411764666900032), (33607616, 35136), (2040, 72), (4503325756112640, 2288633453216512), (508798183667712, 811849504768), (484, 128), (224, 96), (4564445184, 4563847168), (37462193770231434314767642880, 24768472220403013381377925376), (140737488320512, 37675600185344), (536608760, 532608), (248, 72), (33554399200, 17319468768), (16777184, 329696), (2096992, 1524576), (504, 344), (8, 0), (34353446880, 285642720), (523872, 146528), (4609574956068306816, 78831719811134336), (510121854238080, 72571445863808), (9223372036854775296, 1132167761856976384), (1046780, 278660), (248, 72), (524280, 37464), (1047008, 589920), (24, 8), (1073741760, 835989440), (224, 96), (29360368, 12582992), (248, 8), (2096120, 2112), (1048556, 0), (24, 8), (302083882780654898774016, 57111120787175850901504), (394816, 132160), (356811923171297356495804459315722171940044800, 250075843645122122393717736427655963506343936), (248, 72), (1048544, 457440), (33550816, 4718656), (6442467264, 4294968896), (68719247104, 2304), (549749492128, 138614145440), (8522833408, 4294968320), (524224, 140096), (2147483392, 415295744), (35116713769088, 12300888447104), (2305841832232877440, 1747700452419501440), (561850508443616, 17592187093504), (2096128, 8192), (0, 0), (34225987328, 21474836736), (17179873024, 512), (0, 0), (0, 0), (0, 0), (4064, 160), (17179869168, 11922116592), (131056, 17744), (4160, 64), (21778071481672101585862657094807027965952, 14193069001398954517954005709173217550336), (489056, 144480), (18009983283101184, 50813998592), (34359705344, 475401984), (66191232, 54526336), (0, 0), (549748469760, 284609093632), (67107840, 55929856), (128, 0), (0, 0), (1008, 176), (135292060256, 32), (2147483516864, 1933690044352), (35184372062208, 32212445566976), (24, 8), (2044, 236), (12744, 8), (1984, 192), (259056, 188656), (137435758584, 18543943992), (103079476224, 144384), (1684996666696909001221357344212545314834550076813163108044961218560, 817351431986826762860281758062195507199970667287403720822944169984), (0, 0), (134217312, 42480736), (18012061510401920, 9483367587534720), (131008, 37568), (2251799811420096, 891921209061312), (251872, 1184), (1054867456, 203423744), (176376, 41112), (251684832, 33570816), (103079476224, 144384), (1134907174816833536, 558446359683981312), (562949953413120, 158881323245568), (9223372036854612992, 6572628354146337792), (16106191872, 27648), (5189761557339088924594585446375424, 534948553296695577385981632880640), (1199256700454821708236324864, 618970905086405676179128320), (191572903913723790864238992671637385781844249069748224, 191561942624961666193691345827313459999596006042763264), (524280, 16384), (33554424, 1048576), (56, 24), (515517577344, 278656), (8589631424, 6519001792), (8564637664, 6984387552), (30790578600960, 13194144836608), (8547991544, 270600256), (32640, 1408), (480, 96), (244, 0), (2267541405568, 1086548736), (500, 0), (480, 96), (1073741792, 2098176), (34358640576, 21487428992), (248, 72), (9007160601894656, 3377699720530432), (6442516224, 36096), (69805802814175232, 33776997939591168), (140737488353280, 39720330811392), (144115188075815168, 102652924775325952), (4026547968, 6912), (81090024333644409206184890988544, 8358571145278810738267191781376), (131040, 4256), (18738385944646172081651712, 9671420391975088847585280), (187082913978245912881751328838733603566643413254144, 187072209594689127142276706042879697403424314228736), (56, 24), (1073740992, 408996032), (248, 40), (0, 0), (15552, 4096), (40, 8), (31969272, 16875768), (31969272, 16875768), (2305688252872392064, 1802005071330834816), (4160, 64), (21778071481672101585862657094807027965952, 14193069001398954517954005709173217550336), (22464, 5312), (151115726395197971492368, 117488501960190168409616), (7657774501888, 5381137469440), (288230376151707648, 134321539289034752), (23384, 2632), (32760, 920), (186706878683400960228061181397396142607859474899168, 18999521633750881846626716657243632769779228090592), (4357548938284538567644380135424, 65112995099421890939093516288), (0, 0), (131040, 13920), (56, 8), (2417851639235855419699200, 2417851639229258349621248), (120, 8), (7516192768, 1073741824), (261632, 112128), (2199023247360, 1209247621120), (117443200, 67109504), (1032304, 65536), (68719476608, 40949356928), (2403241815248704896955520, 1020107343261513040295040), (56, 8), (489056, 144480), (523872, 146528), (302231212729583403791488, 53278277429810773996672), (37778931863369478700032, 37778931862957161761792), (32640, 11648), (68719474688, 36919875584), (16368, 400), (2044973024, 811763680), (144114775758962592, 96176571434680224), (6442516224, 36096), (69805802814175232, 33776997939591168), (140737488353280, 39720330811392), (144115188075815168, 102652924775325952), (4026547968, 6912), (81090024333644409206184890988544, 8358571145278810738267191781376), (131040, 4256), (18738385944646172081651712, 9671420391975088847585280), (187082913978245912881751328838733603566643413254144, 187072209594689127142276706042879697403424314228736), (9444732930447535240192, 5469901326877548741632), (0, 0), (0, 0), (65408, 1408), (65408, 1408), (63488, 6144), (56, 8), (8, 8), (248, 24), (248, 72), (4286578688, 4034920448), (2040, 72), (16777184, 8537024), (267911168, 252182528), (37778931863369478700032, 37778931862957161761792), (32640, 11648), (68719474688, 36919875584), (56, 24), (5986310706507378352937256975432493639087468014632960, 3070667086210230647485725714629024290224117410594816), (88, 8), (16376, 104), (16376, 104), (302231400860461127565088, 214556398005141846949664), (267911168, 252182528), (24, 8), (19807040554779108103278821056, 5009788746802060600585224704), (0, 0), (0, 0), (0, 0), (0, 0), (0, 0), (0, 0), (0, 0), (0, 0), (0, 0), (0, 0), (0, 0), (0, 0), (0, 0), (0, 0), (0, 0), (0, 0), (0, 0), (0, 0), (0, 0), (0, 0), (0, 0), (0, 0), (0, 0), (0, 0), (0, 0), (0, 0), (0, 0), (0, 0), (0, 0), (0, 0), (31, 0)]
noncomputable def hs : Hints := fun f => (lgQ hl f).getD (0, 0)
noncomputable def onN (n : Nat) (g : Sp) (r : Nat → Option Sp) : Nat → Option Sp := fun f => Bool.rec (r f) (some g) (Nat.beq f n)
theorem onN_ok {P : Program} {n : Nat} {g : Sp} {r : Nat → Option Sp} (hg : SpOk P n g) (hr : TbOk P r) : TbOk P (onN n g r) := fun f q hf => by
  cases hb : Nat.beq f n with
  | false =>
    have e : onN n g r f = r f := by unfold onN; rw [hb]
    rw [e] at hf
    exact hr f q hf
  | true =>
    have e : onN n g r f = some g := by unfold onN; rw [hb]
    rw [e] at hf
    cases hf
    rw [Nat.eq_of_beq_eq_true hb]
    exact hg
theorem no_ok {P : Program} : TbOk P fun _ => none := fun _ _ hf => by cases hf
noncomputable def tb1 : Nat → Option Sp := onN 193 usedSp (onN 183 (sortedSp 244 9) (onN 50 (copyS 5 201 115) (onN 68 (sortedIS 154 3) (fun _ => none))))
theorem tb1_ok : TbOk Tryz.prog tb1 := onN_ok used_sp (onN_ok sorted_sp (onN_ok copy_sp (onN_ok sortedI_sp (no_ok))))
noncomputable def tbd0 : Nat → Option Sp := onN 85 (deferQ hs tb1 Tryz.prog 3000 85) (tb1)
theorem tbd0_ok : TbOk Tryz.prog tbd0 := onN_ok (defer_sp tb1_ok (Checked.mixed Tryz.checked) 3000 85) (tb1_ok)
noncomputable def tbd1 : Nat → Option Sp := onN 41 (deferQ hs tbd0 Tryz.prog 3000 41) (tbd0)
theorem tbd1_ok : TbOk Tryz.prog tbd1 := onN_ok (defer_sp tbd0_ok (Checked.mixed Tryz.checked) 3000 41) (tbd0_ok)
theorem known_run : runQ hs tbd1 Tryz.prog 3000 26 [] = true := by kernel_rfl
theorem known_pure : PureTrue Tryz.prog 26 := pureQ_of tbd1_ok (Checked.mixed Tryz.checked) known_run
noncomputable def tbE : Nat → Option Sp := onN 26 memoK (tbd1)
theorem tbE_ok : TbOk Tryz.prog tbE := onN_ok (memo_ok known_pure) (tbd1_ok)
end Go.Proofs.YtiokhkainaodnaaGreatDoor

set_option linter.all false
namespace Go.Proofs.YtiokhkainaodnaaGreatDoor.dealPhantoms
open Go Go.Ev Go.ChangeShapes Go.WideShapes Go.ChangeAt Go.RowKit
theorem walkOf (hr : ∀ (i0 : Nat) (i1 : Nat) (i2 : Nat) (i3 : Bool), i0 < 10 → i1 < 10 → i2 < 10 → runQ hs tbE Tryz.prog 3000 8 [.r .u8 10 i0 255, .r .u8 10 i1 255, .r .u8 10 i2 255, .b i3] = true) (a0 : Int) (a1 : Int) (a2 : Int) (a3 : Bool) (w0 : (Lit.int .u8 a0).wf = true) (w1 : (Lit.int .u8 a1).wf = true) (w2 : (Lit.int .u8 a2).wf = true) (w : World) : Calls Tryz.prog 8 #[.int .u8 a0, .int .u8 a1, .int .u8 a2, .bool a3] w fun e w' => e = .returned (.bool true) ∧ Below w.heap.size w w' := by
  obtain ⟨i0, h0, v0⟩ := arg_r w0 10 (by omega)
  obtain ⟨i1, h1, v1⟩ := arg_r w1 10 (by omega)
  obtain ⟨i2, h2, v2⟩ := arg_r w2 10 (by omega)
  have v3 := arg_b a3
  exact (runsQ tbE_ok (Checked.mixed Tryz.checked) (hr i0 i1 i2 a3 h0 h1 h2) (args := [.int .u8 a0, .int .u8 a1, .int .u8 a2, .bool a3]) ⟨v0, v1, v2, v3, trivial⟩ w).2.mono fun e w' ⟨he, hs⟩ => ⟨he, hs.below⟩
set_option maxRecDepth 100000 in
theorem contractOf (hr : ∀ (i0 : Nat) (i1 : Nat) (i2 : Nat) (i3 : Bool), i0 < 10 → i1 < 10 → i2 < 10 → runQ hs tbE Tryz.prog 3000 8 [.r .u8 10 i0 255, .r .u8 10 i1 255, .r .u8 10 i2 255, .b i3] = true) (H : Type) (enc : TypeId × Value → H) (W : World) (base : Nat) (args : Array Value) (ds gs : List (DataW H)) (before : List MemPlace)
    (hval : ∀ (j : Nat) t v, Tryz.f8.params[j]? = some t → args[j]? = some v → Value.okWide Tryz.prog W .any base t v)
    (hW : DataW.Whole enc Tryz.prog Tryz.f8.params.toList Rows.dealPhantomsSpec.vars false W args.toList ds gs before) :
    Calls Tryz.prog 8 args W fun e W' => ∃ v, e = .returned v ∧ Rows.dealPhantomsSpec.post enc Tryz.prog Tryz.f8 false true false false W args v W' := by
  have hW' := hW
  obtain ⟨p, q, hA0, hV, rfl, hfz, hnd⟩ := hW
  have hA : DataW.TrodAll enc Tryz.prog W 0 (fun _ => true) true Tryz.f8.params.toList args.toList ds p := hA0
  rw [Tryz.params8] at hA hval
  obtain ⟨v0, vs0, d0, ds0, p0, q0, hargs, rfl, rfl, h0, r0⟩ := trodAll_cons hA
  obtain ⟨v1, vs1, d1, ds1, p1, q1, rfl, rfl, rfl, h1, r1⟩ := trodAll_cons r0
  obtain ⟨v2, vs2, d2, ds2, p2, q2, rfl, rfl, rfl, h2, r2⟩ := trodAll_cons r1
  obtain ⟨v3, vs3, d3, ds3, p3, q3, rfl, rfl, rfl, h3, r3⟩ := trodAll_cons r2
  obtain ⟨rfl, rfl, rfl⟩ := trodAll_nil r3
  obtain rfl : args = #[v0, v1, v2, v3] := by cases args; simp_all
  obtain ⟨rfl, rfl⟩ := trodVars_none hV
  obtain ⟨a0, rfl, rfl, rfl, w0⟩ := open_int Tryz.underlying5 (hval 0 5 v0 rfl rfl) h0
  obtain ⟨a1, rfl, rfl, rfl, w1⟩ := open_int Tryz.underlying5 (hval 1 5 v1 rfl rfl) h1
  obtain ⟨a2, rfl, rfl, rfl, w2⟩ := open_int Tryz.underlying5 (hval 2 5 v2 rfl rfl) h2
  obtain ⟨a3, rfl, rfl, rfl⟩ := open_bool Tryz.underlying4 (hval 3 4 v3 rfl rfl) h3
  clear hA0
  simp only [List.append_nil] at hW'
  refine (walkOf hr a0 a1 a2 a3 w0 w1 w2 W).mono fun e W' ⟨he, hg⟩ => ?_
  subst he
  exact ⟨_, rfl, post_kept hg (pa := []) (pv := []) hW' (fun _ _ _ => (trodAll_cons_mk (shut_bool Tryz.underlying4 _) trodAll_mk0)) (fun sp _ => (trodAll_cons_mk (shut_int Tryz.underlying5 w0) (trodAll_cons_mk (shut_int Tryz.underlying5 w1) (trodAll_cons_mk (shut_int Tryz.underlying5 w2) (trodAll_cons_mk (shut_bool Tryz.underlying4 _) trodAll_mk0))))) (fun _ _ => rfl) rfl
    (ok_one (by kernel_rfl) rfl (okWide_bool_mk Tryz.underlying4 _))⟩
end Go.Proofs.YtiokhkainaodnaaGreatDoor.dealPhantoms
