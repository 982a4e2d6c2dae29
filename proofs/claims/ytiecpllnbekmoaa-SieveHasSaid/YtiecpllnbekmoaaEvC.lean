/-
  The evaluator's memory against the model's: new blocks, loads, stores.
-/
import Derived.Test.YtiecpllnbekmoaaEvB
import Derived.MapKept
set_option linter.all false
namespace Go.Ev
open Go Go.MapKept

/-- what of a block may be frozen, as far as the evaluator knows -/
def FzOk (fz : Nat × Nat) (s cs : Nat) : Nat → Prop
  | 0 => fz.1 = fz.2
  | 1 => fz.1 = fz.2 ∨ fz = (cs, cs + 1)
  | k + 2 => fz.1 = fz.2 ∨ fz.2 + s ≤ k
def HasC (w : World) (b s : Nat) (c : Array Value) (el bel fr : Nat) : Prop := el = bel ∧ ∃ fz, w.heap[b]? = some (.cells c el fz) ∧ FzOk fz s c.size fr
theorem frOk_ok {fr off s cs i : Nat} {fz : Nat × Nat} (h : frOk fr off = true) (hf : FzOk fz s cs fr) (hi : off ≤ s + i) (hc : i < cs) : ¬ (fz.1 ≤ i ∧ i < fz.2) := by
  match fr, h, hf with
  | 0, _, hf => have : fz.1 = fz.2 := hf; omega
  | 1, _, hf =>
    have hf' : fz.1 = fz.2 ∨ fz = (cs, cs + 1) := hf
    rcases hf' with hf' | hf'
    · omega
    · rw [hf']; simp; omega
  | k + 2, h, hf =>
    have hf' : fz.1 = fz.2 ∨ fz.2 + s ≤ k := hf
    have hk : k ≤ off := Nat.le_of_ble_eq_true h
    omega
theorem FzOk.clean (s cs : Nat) : ∀ fr, FzOk (0, 0) s cs fr
  | 0 => rfl
  | 1 => .inl rfl
  | _ + 2 => .inl rfl
theorem HasC.cell? {w : World} {b s : Nat} {c : Array Value} {el bel fr : Nat} (h : HasC w b s c el bel fr) (o : Nat) : w.cell? ⟨b, o, none⟩ = c[o]? := by
  obtain ⟨_, fz, h, _⟩ := h
  simp [World.cell?, h]
theorem HasC.thawed {w : World} {b s off i : Nat} {c : Array Value} {el bel fr : Nat} (h : HasC w b s c el bel fr) (hf : frOk fr off = true) (hi : off ≤ s + i) (hc : i < c.size) : w.frozen? ⟨b, i, none⟩ = false := by
  obtain ⟨_, fz, h, h2⟩ := h
  have := frOk_ok hf h2 hi hc
  simp only [World.frozen?, h]
  simpa using this
theorem HasC.congr {w w' : World} {b s : Nat} {c : Array Value} {el bel fr : Nat} (h : HasC w b s c el bel fr) (e : w'.heap[b]? = w.heap[b]?) : HasC w' b s c el bel fr := by
  obtain ⟨h1, fz, h2, h3⟩ := h
  exact ⟨h1, fz, e.trans h2, h3⟩

/-- pairs and entries, one by one -/
inductive F2 (ρ : Emb) : List (V × V) → List MapEntry → Prop where
  | nil : F2 ρ [] []
  | cons {k v : V} {e : MapEntry} {ps : List (V × V)} {es : List MapEntry} : VRel ρ k e.key → VRel ρ v e.val → F2 ρ ps es → F2 ρ ((k, v) :: ps) (e :: es)
theorem F2.up {ρ ρ' : Emb} (h : ρ.le ρ') {ps : List (V × V)} {es : List MapEntry} (a : F2 ρ ps es) : F2 ρ' ps es := by
  induction a with
  | nil => exact .nil
  | cons a b _ ih => exact .cons (VRel.up h _ _ a) (VRel.up h _ _ b) ih
/-- what a map holds: its entries, in some order -/
structure MapP (ρ : Emb) (ps : List (V × V)) (es : Array MapEntry) (clock : Nat) : Prop where
  rel : ∃ l : List MapEntry, l.Perm es.toList ∧ F2 ρ ps l
  st : Stamped es clock
/-- the pairs of a map's block: the key of the i-th at 2i, its value behind it -/
def RdP (cells : T V) (n : Nat) (ps : List (V × V)) : Prop := ps.length = n ∧ ∀ (i : Nat) kv, ps[i]? = some kv → cells.getN (2 * i) = some kv.1 ∧ cells.getN (2 * i + 1) = some kv.2
def MapOk (ρ : Emb) (cells : T V) (n : Nat) (es : Array MapEntry) (clock : Nat) : Prop := ∃ ps, RdP cells n ps ∧ MapP ρ ps es clock
theorem MapP.up {ρ ρ' : Emb} (h : ρ.le ρ') {ps : List (V × V)} {es : Array MapEntry} {clock : Nat} (m : MapP ρ ps es clock) : MapP ρ' ps es clock := by
  obtain ⟨l, l1, l2⟩ := m.rel
  exact ⟨⟨l, l1, l2.up h⟩, m.st⟩
theorem MapOk.up {ρ ρ' : Emb} (h : ρ.le ρ') {cells : T V} {n : Nat} {es : Array MapEntry} {clock : Nat} (m : MapOk ρ cells n es clock) : MapOk ρ' cells n es clock := by
  obtain ⟨ps, a, b⟩ := m
  exact ⟨ps, a, b.up h⟩
/-- a block is a map's where its 'min' is seven more than its 'cur': so nothing reads it as cells -/
def MpOk (ρ : Emb) (h : H) (w : World) : Prop := ∀ id L blk, ρ id 0 = some L → h.heap.get id = some blk → blk.min = blk.cur + 7 → ∃ es clock, w.heap[L.b]? = some (.map es clock) ∧ MapOk ρ blk.cells blk.el es clock
theorem MpOk.of {ρ ρ' : Emb} {h h' : H} {w w' : World} (m : MpOk ρ h w) (hle : ρ.le ρ') (hnew : ∀ id L blk, ρ' id 0 = some L → h'.heap.get id = some blk → blk.min = blk.cur + 7 → ρ id 0 = some L ∧ h.heap.get id = some blk ∧ w'.heap[L.b]? = w.heap[L.b]?) : MpOk ρ' h' w' := by
  intro id L blk h1 h2 h3
  obtain ⟨a1, a2, a3⟩ := hnew id L blk h1 h2 h3
  obtain ⟨es, clock, b1, b2⟩ := m id L blk a1 a2 h3
  exact ⟨es, clock, a3.trans b1, b2.up hle⟩

def objOf : Sum (Nat × Nat × Array Nat × Nat) (Array MapEntry × Nat) → Obj
  | .inl (m, s, seen, l) => .mapIter (some m) s seen l
  | .inr (es, c) => .map es c
/-- of a block whose 'min' is nine more than its 'cur' it is known just which object lies there: an iterator, or the map that it goes through; each step is a generation -/
def ItOk (ρ : Emb) (h : H) (w : World) : Prop := ∀ id g L blk o, ρ id g = some L → h.heap.get id = some blk → blk.cur = g → blk.min = blk.cur + 9 → L.it = some o → w.heap[L.b]? = some (objOf o)
theorem ItOk.of {ρ ρ' : Emb} {h h' : H} {w w' : World} (m : ItOk ρ h w) (hnew : ∀ id g L blk, ρ' id g = some L → h'.heap.get id = some blk → blk.cur = g → blk.min = blk.cur + 9 → ρ id g = some L ∧ h.heap.get id = some blk ∧ w'.heap[L.b]? = w.heap[L.b]?) : ItOk ρ' h' w' := by
  intro id g L blk o h1 h2 h3 h4 h5
  obtain ⟨a1, a2, a3⟩ := hnew id g L blk h1 h2 h3 h4
  exact a3.trans (m id g L blk o a1 a2 h3 h4 h5)

/-- 'h' is what the evaluator knows of world 'w'; 'w0' is the world that it started from: of its blocks none has turned. -/
structure HRel (ρ : Emb) (h : H) (w w0 : World) : Prop where
  loc : ∀ id g L, ρ id g = some L → ∃ blk, h.heap.get id = some blk ∧ g ≤ blk.cur ∧ L.b < w.heap.size ∧ L.s ≤ L.e ∧ L.e ≤ blk.size ∧ (g = blk.cur → L.e = blk.size) ∧
    (blk.min ≤ g → ∃ c el, HasC w L.b L.s c el blk.el blk.fr ∧ c.size = L.cs ∧ L.e - L.s ≤ L.cs ∧
      ∀ i, L.s ≤ i → i < L.e → ∃ v x, blk.cells.getN i = some v ∧ c[i - L.s]? = some x ∧ VRel ρ v x)
  ids : ∀ id g L, ρ id g = some L → B.val id < B.val h.next
  sep : ∀ id g L id' g' L', ρ id g = some L → ρ id' g' = some L' → L.b = L'.b → id = id' ∧ L.s = L'.s
  flo : B.val h.floor ≤ B.val h.next
  old : ∀ b : Nat, b < w0.heap.size → w.heap[b]? = w0.heap[b]?
  up : ∀ id g L, ρ id g = some L → B.val h.floor ≤ B.val id → w0.heap.size ≤ L.b
  tp : w.tape = w0.tape
  os : w.os = w0.os
  out : w.output = w0.output
  siz : w0.heap.size ≤ w.heap.size
  mp : MpOk ρ h w
  ito : ItOk ρ h w

/-- the floor stays, and nothing below it turns -/
def KeepF (h h' : H) : Prop := h'.floor = h.floor ∧ (B.val h.floor ≤ B.val h.next → ∀ id, B.val id < B.val h.floor → h'.heap.get id = h.heap.get id)
theorem KeepF.refl (h : H) : KeepF h h := ⟨rfl, fun _ _ _ => rfl⟩
theorem KeepF.trans {a b c : H} (h : KeepF a b) (hn : B.val a.next ≤ B.val b.next) (h' : KeepF b c) : KeepF a c :=
  ⟨h'.1.trans h.1, fun hf id hid => (h'.2 (by rw [h.1]; exact Nat.le_trans hf hn) id (by rw [h.1]; exact hid)).trans (h.2 hf id hid)⟩

theorem alloc_get_old (w : World) (o : Obj) {b : Nat} (h : b < w.heap.size) : (w.alloc o).heap[b]? = w.heap[b]? := by
  show (w.heap.push o)[b]? = _
  rw [Array.getElem?_push]
  split
  · omega
  · rfl
theorem alloc_get_new (w : World) (o : Obj) : (w.alloc o).heap[w.heap.size]? = some o := by
  show (w.heap.push o)[_]? = _
  simp
theorem alloc_size (w : World) (o : Obj) : (w.alloc o).heap.size = w.heap.size + 1 := by
  show (w.heap.push o).size = _
  simp

noncomputable def Emb.put (ρ : Emb) (id : B) (g : Nat) (L : Loc) : Emb := open Classical in fun i j => if i = id ∧ j = g then some L else ρ i j
theorem Emb.put_same (ρ : Emb) (id : B) (g : Nat) (L : Loc) : ρ.put id g L id g = some L := by simp [Emb.put]
theorem Emb.put_other (ρ : Emb) (id : B) (g : Nat) (L : Loc) {i : B} {j : Nat} (h : ¬ (i = id ∧ j = g)) : ρ.put id g L i j = ρ i j := by simp [Emb.put, h]
theorem Emb.put_le {ρ : Emb} {id : B} {g : Nat} (L : Loc) (h : ρ id g = none) : ρ.le (ρ.put id g L) := by
  intro i j M hM
  by_cases e : i = id ∧ j = g
  · rw [e.1, e.2, h] at hM; cases hM
  · rw [Emb.put_other _ _ _ _ e]; exact hM

/-- what came to be known: at blocks from 'f' on alone -/
def Ext (f : B) (ρ ρ' : Emb) : Prop := ρ.le ρ' ∧ ∀ id g L, ρ' id g = some L → ρ id g = some L ∨ B.val f ≤ B.val id
theorem Ext.refl (f : B) (ρ : Emb) : Ext f ρ ρ := ⟨Emb.le_refl ρ, fun _ _ _ h => .inl h⟩
theorem Ext.trans {f : B} {a b c : Emb} (h : Ext f a b) (h' : Ext f b c) : Ext f a c :=
  ⟨Emb.le_trans h.1 h'.1, fun id g L hL => (h'.2 id g L hL).elim (fun x => h.2 id g L x) .inr⟩
theorem Ext.put {f : B} {ρ : Emb} {id : B} {g : Nat} {L : Loc} (h : ρ id g = none) (hf : B.val f ≤ B.val id) : Ext f ρ (ρ.put id g L) :=
  ⟨Emb.put_le L h, fun i j M hM => by
    by_cases e : i = id ∧ j = g
    · right; rw [e.1]; exact hf
    · left; rwa [Emb.put_other _ _ _ _ e] at hM⟩

/-- a new block -/
theorem alloc_ok {el : Nat} {cs : List V} {h : H} {k : B → H → Bool} (hk : alloc el cs h k = true) :
    ∃ h', (∀ k', alloc el cs h k' = k' h.next h') ∧ KeepF h h' ∧ B.val h.next ≤ B.val h'.next ∧
      ∀ ρ w w0 (c : Array Value) (s cap : Nat), HRel ρ h w w0 → cs.length ≤ c.size → c.size = cap → (∀ (i : Nat) v x, cs[i]? = some v → c[i]? = some x → VRel ρ v x) → s = 0 →
        ∃ ρ', Ext h.floor ρ ρ' ∧ ρ' h.next 0 = some ⟨w.heap.size, 0, cs.length, cap, none⟩ ∧ HRel ρ' h' (w.alloc (.cells c el)) w0 := by
  obtain ⟨next, floor, heap⟩ := h
  have e : ∀ k', alloc el cs ⟨next, floor, heap⟩ k' = setList cs 0 .o fun t => T.setK next ⟨0, 0, cs.length, t, el, 0⟩ heap fun heap => B.incK next fun next' => k' next ⟨next', floor, heap⟩ := by
    intro k'; simp only [alloc, hK_mk, fN_eq]
  rw [e] at hk
  obtain ⟨t, h1, h2, h3⟩ := setList_ok _ _ _ _ hk
  obtain ⟨hp, h4, h5, h6⟩ := setK_ok next (⟨0, 0, cs.length, t, el, 0⟩ : Blk) heap
  obtain ⟨nx, h7, h8⟩ := incK_ok next
  refine ⟨⟨nx, floor, hp⟩, fun k' => by rw [e, h1, h4, h7], ⟨rfl, fun hf id hid => h6 id (fun e => by rw [e] at hid; exact absurd hf (Nat.not_le.2 hid))⟩, by show B.val next ≤ B.val nx; omega, fun ρ w w0 c s cap R hl hcap hv _ => ?_⟩
  have hnone : ρ next 0 = none := by
    cases hr : ρ next 0 with
    | none => rfl
    | some L => have := R.ids _ _ _ hr; exact absurd this (Nat.lt_irrefl _)
  have hne : ∀ id g L, ρ id g = some L → ¬ (id = next) := fun id g L hr he => by
    have := R.ids _ _ _ hr; rw [he] at this; exact absurd this (Nat.lt_irrefl _)
  have hle := Emb.put_le ⟨w.heap.size, 0, cs.length, cap, none⟩ hnone
  refine ⟨ρ.put next 0 ⟨w.heap.size, 0, cs.length, cap, none⟩, Ext.put hnone R.flo, Emb.put_same _ _ _ _, ?_⟩
  have hcase : ∀ {id g L}, ρ.put next 0 ⟨w.heap.size, 0, cs.length, cap, none⟩ id g = some L → (id = next ∧ g = 0 ∧ L = ⟨w.heap.size, 0, cs.length, cap, none⟩) ∨ ρ id g = some L := by
    intro id g L hL
    by_cases e : id = next ∧ g = 0
    · left; obtain ⟨rfl, rfl⟩ := e; rw [Emb.put_same] at hL; exact ⟨rfl, rfl, (Option.some.inj hL).symm⟩
    · right; rwa [Emb.put_other _ _ _ _ e] at hL
  constructor
  · intro id g L hL
    rcases hcase hL with ⟨rfl, rfl, rfl⟩ | hL
    · refine ⟨_, h5, Nat.le_refl _, by rw [alloc_size]; exact Nat.lt_succ_self _, Nat.zero_le _, Nat.le_refl _, fun _ => rfl, fun _ => ⟨c, el, ⟨rfl, (0, 0), alloc_get_new _ _, rfl⟩, hcap, by show cs.length - 0 ≤ cap; omega, fun i _ hi => ?_⟩⟩
      have hi' : i < cs.length := hi
      have hx : ∃ x, c[i]? = some x := ⟨c[i]'(by omega), by simp⟩
      obtain ⟨x, hx⟩ := hx
      have hvi : cs[i]? = some cs[i] := by simp [hi']
      refine ⟨cs[i], x, ?_, by simpa using hx, VRel.up hle _ _ (hv i _ _ hvi hx)⟩
      have := h2 i _ hvi
      simpa using this
    · obtain ⟨blk, a1, a2, a3, a4, a5, a6, a7⟩ := R.loc _ _ _ hL
      refine ⟨blk, (h6 id (hne _ _ _ hL)).trans a1, a2, by rw [alloc_size]; omega, a4, a5, a6, fun hm => ?_⟩
      obtain ⟨c', el', b1, b2, b3, b4⟩ := a7 hm
      refine ⟨c', el', b1.congr (alloc_get_old _ _ a3), b2, b3, fun i i1 i2 => ?_⟩
      obtain ⟨v, x, d1, d2, d3⟩ := b4 i i1 i2
      exact ⟨v, x, d1, d2, VRel.up hle _ _ d3⟩
  · intro id g L hL
    show B.val id < B.val nx
    rcases hcase hL with ⟨rfl, rfl, rfl⟩ | hL
    · rw [h8]; exact Nat.lt_succ_self _
    · have : B.val id < B.val next := R.ids _ _ _ hL
      rw [h8]; omega
  · intro id g L id' g' L' hL hL' hb
    rcases hcase hL with ⟨i1, i2, i3⟩ | hM <;> rcases hcase hL' with ⟨j1, j2, j3⟩ | hM'
    · exact ⟨i1.trans j1.symm, by rw [i3, j3]⟩
    · obtain ⟨_, _, _, a3, _⟩ := R.loc _ _ _ hM'
      rw [← hb, i3] at a3; exact absurd a3 (Nat.lt_irrefl _)
    · obtain ⟨_, _, _, a3, _⟩ := R.loc _ _ _ hM
      rw [hb, j3] at a3; exact absurd a3 (Nat.lt_irrefl _)
    · exact R.sep _ _ _ _ _ _ hM hM' hb
  · show B.val floor ≤ B.val nx
    have : B.val floor ≤ B.val next := R.flo
    rw [h8]; omega
  · intro b hb
    rw [alloc_get_old _ _ (Nat.lt_of_lt_of_le hb R.siz)]
    exact R.old b hb
  · intro id g L hL hf
    rcases hcase hL with ⟨rfl, rfl, rfl⟩ | hL
    · exact R.siz
    · exact R.up _ _ _ hL hf
  · exact R.tp
  · exact R.os
  · exact R.out
  · rw [alloc_size]; exact Nat.le_succ_of_le R.siz
  · refine R.mp.of hle fun id L blk h1 h2' h3' => ?_
    rcases hcase h1 with ⟨rfl, _, _⟩ | hL
    · have : hp.get id = some blk := h2'
      rw [h5] at this
      rw [← Option.some.inj this] at h3'
      have h3' : 0 = 0 + 7 := h3'
      exact absurd h3' (by decide)
    · obtain ⟨_, _, _, a3, _⟩ := R.loc _ _ _ hL
      exact ⟨hL, (h6 id (hne _ _ _ hL)).symm.trans h2', alloc_get_old _ _ a3⟩
  · refine R.ito.of fun id g L blk h1 h2' _ h3' => ?_
    rcases hcase h1 with ⟨rfl, _, _⟩ | hL
    · have : hp.get id = some blk := h2'
      rw [h5] at this
      rw [← Option.some.inj this] at h3'
      have h3' : 0 = 0 + 9 := h3'
      exact absurd h3' (by decide)
    · obtain ⟨_, _, _, a3, _⟩ := R.loc _ _ _ hL
      exact ⟨hL, (h6 id (hne _ _ _ hL)).symm.trans h2', alloc_get_old _ _ a3⟩

theorem cell?_of {w : World} {b : Nat} {c : Array Value} {el : TypeId} {f : Nat × Nat} (h : w.heap[b]? = some (.cells c el f)) (o : Nat) : w.cell? ⟨b, o, none⟩ = c[o]? := by
  simp [World.cell?, h]
theorem add_none (b o n : Nat) : (⟨b, o, none⟩ : Addr).add n = ⟨b, o + n, none⟩ := by
  unfold Addr.add; split <;> simp_all

/-- loads -/
theorem loadN_ok {h : H} {id : B} {g off fin n : Nat} {k : List V → Bool} (hk : loadN h id g off fin n k = true) :
    ∃ vs, (∀ k', loadN h id g off fin n k' = k' vs) ∧ vs.length = n ∧
      ∀ ρ w w0 L, HRel ρ h w w0 → ρ id g = some L → L.s ≤ off → fin ≤ L.e → ∃ xs, LRel ρ vs xs ∧ (∀ (P : Program), (loadCells ⟨L.b, off - L.s, none⟩ n).run P w = .ok xs.toArray w) ∧ xs.length = n := by
  obtain ⟨next, floor, heap⟩ := h
  simp only [loadN, hK_mk] at hk
  obtain ⟨⟨cur, min, size, cells, bel, fr⟩, hb, hk⟩ := optK_ok hk
  simp only [blkK_mk] at hk
  obtain ⟨hm, hk⟩ := ifK_ok hk
  obtain ⟨hf, hk⟩ := ifK_ok hk
  obtain ⟨vs, h1, h2, h3⟩ := getList_ok _ _ _ _ hk
  refine ⟨vs, fun k' => by simp only [loadN, hK_mk, hb, optK_some, blkK_mk, hm, hf, ifK_true, h1], h2, fun ρ w w0 L R hL hs hfin => ?_⟩
  obtain ⟨blk, a1, a2, a3, a4, a5, a6, a7⟩ := R.loc _ _ _ hL
  have hbe : blk = ⟨cur, min, size, cells, bel, fr⟩ := by
    have : heap.get id = some blk := a1
    rw [hb] at this; exact (Option.some.inj this).symm
  subst hbe
  obtain ⟨c, el, b1, b2, b3, b4⟩ := a7 (Nat.le_of_ble_eq_true hm)
  have hfin' : off + n ≤ fin := Nat.le_of_ble_eq_true hf
  have hx : ∀ j, j < n → ∃ x, c[off - L.s + j]? = some x ∧ ∃ v, vs[j]? = some v ∧ VRel ρ v x := by
    intro j hj
    obtain ⟨v, x, d1, d2, d3⟩ := b4 (off + j) (by omega) (by omega)
    refine ⟨x, by rw [← d2]; congr 1; omega, v, ?_, d3⟩
    have := h3 j hj
    rw [← this]; exact d1
  refine ⟨(List.range n).map fun j => c.getD (off - L.s + j) default, ?_, fun P => ?_, by simp⟩
  · refine LRel.of_get (by simp [h2]) fun i v x hv hx' => ?_
    have hi : i < n := by
      rw [← h2]; exact (List.getElem?_eq_some_iff.1 hv).1
    obtain ⟨y, e1, v1, e2, e3⟩ := hx i hi
    rw [hv] at e2
    cases e2
    have : x = y := by
      simp [hi] at hx'
      rw [← hx']
      have hlt := (Array.getElem?_eq_some_iff.1 e1).1
      simp [hlt]
      exact (Array.getElem?_eq_some_iff.1 e1).2
    rw [this]; exact e3
  · rw [run_loadCells w ⟨L.b, off - L.s, none⟩ n (fun j => c.getD (off - L.s + j) default) (fun j hj => ?_)]
    obtain ⟨y, e1, _⟩ := hx j hj
    rw [add_none, b1.cell?, e1]
    have hlt := (Array.getElem?_eq_some_iff.1 e1).1
    congr 1
    simp [hlt]
    exact (Array.getElem?_eq_some_iff.1 e1).2.symm

theorem loadN_cells {h : H} {id : B} {g off fin n : Nat} {vs : List V} (hk : ∀ k', loadN h id g off fin n k' = k' vs) {ρ : Emb} {w w0 : World} {L : Loc} (R : HRel ρ h w w0) (hL : ρ id g = some L) (hs : L.s ≤ off) (hfin : fin ≤ L.e) :
    ∃ xs, LRel ρ vs xs ∧ ∀ j x, xs[j]? = some x → w.cell? ⟨L.b, off - L.s + j, none⟩ = some x := by
  obtain ⟨next, floor, heap⟩ := h
  have hk0 := hk
  have hk := hk fun _ => true
  simp only [loadN, hK_mk] at hk
  obtain ⟨⟨cur, min, size, cells, bel, fr⟩, hb, hk⟩ := optK_ok hk
  simp only [blkK_mk] at hk
  obtain ⟨hm, hk⟩ := ifK_ok hk
  obtain ⟨hf, hk⟩ := ifK_ok hk
  obtain ⟨us, h1, h2, h3⟩ := getList_ok _ _ _ _ hk
  have huv : us = vs := by
    by_cases e : us = vs
    · exact e
    · classical
      have := hk0 fun l => decide (l = us)
      have e1 : loadN ⟨next, floor, heap⟩ id g off fin n (fun l => decide (l = us)) = decide (us = us) := by
        simp only [loadN, hK_mk, hb, optK_some, blkK_mk, hm, hf, ifK_true, h1]
      rw [e1] at this
      simp at this
      exact this.symm
  subst huv
  obtain ⟨blk, a1, a2, a3, a4, a5, a6, a7⟩ := R.loc _ _ _ hL
  have hbe : blk = ⟨cur, min, size, cells, bel, fr⟩ := by
    have : heap.get id = some blk := a1
    rw [hb] at this; exact (Option.some.inj this).symm
  subst hbe
  obtain ⟨c, el, b1, b2, b3, b4⟩ := a7 (Nat.le_of_ble_eq_true hm)
  have hfin' : off + n ≤ fin := Nat.le_of_ble_eq_true hf
  have hx : ∀ j, j < n → ∃ x, c[off - L.s + j]? = some x ∧ ∃ v, us[j]? = some v ∧ VRel ρ v x := by
    intro j hj
    obtain ⟨v, x, d1, d2, d3⟩ := b4 (off + j) (by omega) (by omega)
    refine ⟨x, by rw [← d2]; congr 1; omega, v, ?_, d3⟩
    have := h3 j hj
    rw [← this]; exact d1
  have hget : ∀ j x, ((List.range n).map fun j => c.getD (off - L.s + j) default)[j]? = some x → c[off - L.s + j]? = some x := by
    intro j x hx'
    have hj : j < n := by have := (List.getElem?_eq_some_iff.1 hx').1; simpa using this
    obtain ⟨y, e1, _⟩ := hx j hj
    have hlt := (Array.getElem?_eq_some_iff.1 e1).1
    simp [hj, hlt] at hx'
    rw [← hx']
    simp [hlt]
  refine ⟨(List.range n).map fun j => c.getD (off - L.s + j) default, LRel.of_get (by simp [h2]) fun i v x hv hx' => ?_, fun j x hj => by rw [b1.cell?]; exact hget j x hj⟩
  have hi : i < n := by rw [← h2]; exact (List.getElem?_eq_some_iff.1 hv).1
  obtain ⟨y, e1, v1, e2, e3⟩ := hx i hi
  rw [hv] at e2
  cases e2
  have := hget i x hx'
  rw [e1] at this
  cases this
  exact e3

theorem load1_ok {h : H} {id : B} {g off fin : Nat} {k : V → Bool} (hk : load1 h id g off fin k = true) :
    ∃ v, (∀ k', load1 h id g off fin k' = k' v) ∧
      ∀ ρ w w0 L, HRel ρ h w w0 → ρ id g = some L → L.s ≤ off → fin ≤ L.e → ∃ x, VRel ρ v x ∧ w.cell? ⟨L.b, off - L.s, none⟩ = some x := by
  obtain ⟨next, floor, heap⟩ := h
  simp only [load1, hK_mk] at hk
  obtain ⟨⟨cur, min, size, cells, bel, fr⟩, hb, hk⟩ := optK_ok hk
  simp only [blkK_mk] at hk
  obtain ⟨hm, hk⟩ := ifK_ok hk
  obtain ⟨hf, hk⟩ := ifK_ok hk
  obtain ⟨v, hv, hk⟩ := optK_ok hk
  refine ⟨v, fun k' => by simp only [load1, hK_mk, hb, optK_some, blkK_mk, hm, hf, ifK_true, hv, forceV_eq], fun ρ w w0 L R hL hs hfin => ?_⟩
  obtain ⟨blk, a1, a2, a3, a4, a5, a6, a7⟩ := R.loc _ _ _ hL
  have hbe : blk = ⟨cur, min, size, cells, bel, fr⟩ := by
    have : heap.get id = some blk := a1
    rw [hb] at this; exact (Option.some.inj this).symm
  subst hbe
  obtain ⟨c, el, b1, b2, b3, b4⟩ := a7 (Nat.le_of_ble_eq_true hm)
  have hfin' : off + 1 ≤ fin := Nat.le_of_ble_eq_true hf
  obtain ⟨v', x, d1, d2, d3⟩ := b4 off hs (by omega)
  have : v' = v := by
    have d1' : cells.getN off = some v' := d1
    rw [hv] at d1'; exact (Option.some.inj d1').symm
  subst this
  exact ⟨x, d3, by rw [b1.cell?]; exact d2⟩

theorem heap_setCells (b : Nat) : ∀ (vs : List Value) (o : Nat) (w : World) (c : Array Value) (el : TypeId) (f : Nat × Nat), w.heap[b]? = some (.cells c el f) →
    ∃ c', (w.setCells b o vs).heap[b]? = some (.cells c' el f) ∧ c'.size = c.size ∧ (∀ j, j < o ∨ o + vs.length ≤ j → c'[j]? = c[j]?) ∧ (∀ j x, vs[j]? = some x → o + j < c.size → c'[o + j]? = some x)
  | [], o, w, c, el, f, h => ⟨c, h, rfl, fun _ _ => rfl, fun j x hx => by simp at hx⟩
  | y :: r, o, w, c, el, f, h => by
    have h1 : (w.setCell ⟨b, o, none⟩ y).heap[b]? = some (.cells (c.setIfInBounds o y) el f) := by
      simp [World.setCell, Array.getElem?_modify, h]
    obtain ⟨c', e1, e2, e3, e4⟩ := heap_setCells b r (o + 1) _ _ el f h1
    refine ⟨c', e1, by simpa using e2, fun j hj => ?_, fun j x hx hs => ?_⟩
    · rw [e3 j (by simp at hj; omega), Array.getElem?_setIfInBounds]
      rw [if_neg (by simp at hj; omega)]
    · cases j with
      | zero =>
        simp at hx
        subst hx
        rw [Nat.add_zero, e3 o (Or.inl (by omega)), Array.getElem?_setIfInBounds, if_pos rfl, if_pos (by simpa using hs)]
      | succ j =>
        have := e4 j x (by simpa using hx) (by simp; omega)
        rwa [show o + 1 + j = o + (j + 1) by omega] at this
theorem heap_setCells_other (b : Nat) : ∀ (vs : List Value) (o : Nat) (w : World) (i : Nat), i ≠ b → (w.setCells b o vs).heap[i]? = w.heap[i]?
  | [], _, _, _, _ => rfl
  | y :: r, o, w, i, h => by
    rw [World.setCells, heap_setCells_other b r (o + 1) _ i h]
    simp only [World.setCell, Array.getElem?_modify]
    rw [if_neg (by simpa using fun e => h e.symm)]
theorem size_setCells (b : Nat) : ∀ (vs : List Value) (o : Nat) (w : World), (w.setCells b o vs).heap.size = w.heap.size
  | [], _, _ => rfl
  | y :: r, o, w => by
    rw [World.setCells, size_setCells b r]
    simp [World.setCell]
theorem os_setCells (b : Nat) : ∀ (vs : List Value) (o : Nat) (w : World), (w.setCells b o vs).os = w.os ∧ (w.setCells b o vs).output = w.output ∧ (w.setCells b o vs).tape = w.tape
  | [], _, _ => ⟨rfl, rfl, rfl⟩
  | y :: r, o, w => by
    rw [World.setCells]
    exact os_setCells b r _ _

/-- stores -/
theorem store_ok {h : H} {id : B} {g off fin : Nat} {vs : List V} {k : H → Bool} (hk : store h id g off fin vs k = true) :
    ∃ h', (∀ k', store h id g off fin vs k' = k' h') ∧ KeepF h h' ∧ h'.next = h.next ∧
      ∀ ρ w w0 L xs, HRel ρ h w w0 → ρ id g = some L → L.s ≤ off → fin ≤ L.e → LRel ρ vs xs →
        (∀ (P : Program), (storeCells ⟨L.b, off - L.s, none⟩ xs).run P w = .ok () (w.setCells L.b (off - L.s) xs)) ∧ HRel ρ h' (w.setCells L.b (off - L.s) xs) w0 := by
  obtain ⟨next, floor, heap⟩ := h
  have e : ∀ k', store ⟨next, floor, heap⟩ id g off fin vs k' = optK (heap.get id) fun blk => blkK blk fun cur min size cells el fr =>
    ifK (Nat.beq cur g) fun _ => ifK (Nat.ble min cur) fun _ => ifK (B.geB floor id) fun _ => ifK (Nat.ble (Nat.add off vs.length) fin) fun _ => ifK (allOne vs) fun _ => ifK (frOk fr off) fun _ =>
      setList vs off cells fun t => T.setK id ⟨cur, cur, size, t, el, fr⟩ heap fun heap => k' ⟨next, floor, heap⟩ := fun _ => rfl
  rw [e] at hk
  obtain ⟨⟨cur, min, size, cells, bel, fr⟩, hb, hk⟩ := optK_ok hk
  simp only [blkK_mk] at hk
  obtain ⟨hg, hk⟩ := ifK_ok hk
  obtain ⟨hmn, hk⟩ := ifK_ok hk
  obtain ⟨hfl, hk⟩ := ifK_ok hk
  obtain ⟨hfn, hk⟩ := ifK_ok hk
  obtain ⟨ho, hk⟩ := ifK_ok hk
  obtain ⟨hfr, hk⟩ := ifK_ok hk
  obtain ⟨t, h1, h2, h3⟩ := setList_ok _ _ _ _ hk
  obtain ⟨hp, h4, h5, h6⟩ := setK_ok id (⟨cur, cur, size, t, bel, fr⟩ : Blk) heap
  refine ⟨⟨next, floor, hp⟩, fun k' => by rw [e, hb, optK_some, blkK_mk, hg, hmn, hfl, hfn, ho, hfr]; simp only [ifK_true]; rw [h1, h4], ⟨rfl, fun hf i hi => h6 i (fun e => by rw [e] at hi; exact absurd (geB_ok hfl) (Nat.not_le.2 hi))⟩, rfl, fun ρ w w0 L xs R hL hs hfin hx => ?_⟩
  have hgc : cur = g := Nat.eq_of_beq_eq_true hg
  subst hgc
  have hlen : off + vs.length ≤ fin := Nat.le_of_ble_eq_true hfn
  have hxl := hx.length
  obtain ⟨blk, a1, a2, a3, a4, a5, a6, a7⟩ := R.loc _ _ _ hL
  have hbe : blk = ⟨cur, min, size, cells, bel, fr⟩ := by
    have : heap.get id = some blk := a1
    rw [hb] at this; exact (Option.some.inj this).symm
  subst hbe
  · obtain ⟨c, el, b1, b2, b3, b4⟩ := a7 (Nat.le_of_ble_eq_true hmn)
    have b1h := b1
    obtain ⟨b1e, fz, b1a, b1f⟩ := b1h
    obtain ⟨c', s1, s2, s3, s4⟩ := heap_setCells L.b xs (off - L.s) w c el fz b1a
    have hcs : ∀ j, j < xs.length → off - L.s + j < c.size := fun j hj => by omega
    refine ⟨fun P => ?_, ?_⟩
    · have := run_storeCells_cells (P := P) L.b (off - L.s) xs 0 w
        (fun j hj => by rw [b1.cell?]; have := hcs j hj; rw [Array.getElem?_eq_getElem (by omega)]; rfl)
        (fun j hj => by
          have hj' := hcs j (by simpa using hj)
          have : w.frozen? ⟨L.b, off - L.s + 0 + j, none⟩ = false := b1.thawed hfr (by omega) (by omega)
          exact this)
        (allOne_ok ho hx)
      simpa using this
    · constructor
      · intro i j M hM
        by_cases hi : i = id
        · subst hi
          obtain ⟨blk2, d1, d2, d3, d4, d5, d6, d7⟩ := R.loc _ _ _ hM
          have hbe2 : blk2 = ⟨cur, min, size, cells, bel, fr⟩ := by
            have : heap.get i = some blk2 := d1
            rw [hb] at this; exact (Option.some.inj this).symm
          subst hbe2
          refine ⟨⟨cur, cur, size, t, bel, fr⟩, h5, d2, by rw [size_setCells]; exact d3, d4, d5, d6, fun hm => ?_⟩
          have hj : j = cur := Nat.le_antisymm d2 hm
          subst hj
          have hLM : M = L := by rw [hM] at hL; exact Option.some.inj hL
          subst hLM
          refine ⟨c', el, ⟨b1e, fz, s1, by rw [s2]; exact b1f⟩, s2.trans b2, b3, fun q q1 q2 => ?_⟩
          by_cases hq : off ≤ q ∧ q < off + vs.length
          · have hv : vs[q - off]? = some (vs[q - off]'(by omega)) := by simp
            obtain ⟨x, hx1, hx2⟩ := hx.get hv
            refine ⟨_, x, ?_, ?_, hx2⟩
            · have := h2 (q - off) _ hv
              rwa [show off + (q - off) = q by omega] at this
            · have := s4 (q - off) x hx1 (by omega)
              rwa [show off - M.s + (q - off) = q - M.s by omega] at this
          · obtain ⟨v, x, f1, f2, f3⟩ := b4 q q1 q2
            refine ⟨v, x, (h3 q (by omega)).trans f1, ?_, f3⟩
            rw [s3 (q - M.s) (by omega)]; exact f2
        · obtain ⟨blk2, d1, d2, d3, d4, d5, d6, d7⟩ := R.loc _ _ _ hM
          refine ⟨blk2, (h6 i hi).trans d1, d2, by rw [size_setCells]; exact d3, d4, d5, d6, fun hm => ?_⟩
          obtain ⟨c2, el2, f1, f2, f3, f4⟩ := d7 hm
          refine ⟨c2, el2, f1.congr ?_, f2, f3, f4⟩
          rw [heap_setCells_other]
          · intro hbb
            exact hi (R.sep _ _ _ _ _ _ hM hL hbb).1
      · exact R.ids
      · exact R.sep
      · exact R.flo
      · intro b hb'
        rw [heap_setCells_other]
        · exact R.old b hb'
        · have := R.up _ _ _ hL (geB_ok hfl)
          omega
      · exact R.up
      · rw [(os_setCells _ _ _ _).2.2]; exact R.tp
      · rw [(os_setCells _ _ _ _).1]; exact R.os
      · rw [(os_setCells _ _ _ _).2.1]; exact R.out
      · rw [size_setCells]; exact R.siz
      · refine R.mp.of (Emb.le_refl ρ) fun i M blk2 hM h2' h3' => ?_
        by_cases hi : i = id
        · subst hi
          have : hp.get i = some blk2 := h2'
          rw [h5] at this
          rw [← Option.some.inj this] at h3'
          have h3' : cur = cur + 7 := h3'
          omega
        · refine ⟨hM, (h6 i hi).symm.trans h2', heap_setCells_other _ _ _ _ _ fun hbb => ?_⟩
          exact hi (R.sep _ _ _ _ _ _ hM hL hbb).1
      · refine R.ito.of fun i j M blk2 hM h2' _ h3' => ?_
        by_cases hi : i = id
        · subst hi
          have : hp.get i = some blk2 := h2'
          rw [h5] at this
          rw [← Option.some.inj this] at h3'
          have h3' : cur = cur + 9 := h3'
          omega
        · refine ⟨hM, (h6 i hi).symm.trans h2', heap_setCells_other _ _ _ _ _ fun hbb => ?_⟩
          exact hi (R.sep _ _ _ _ _ _ hM hL hbb).1

end Go.Ev
