/-
  strings.Builder in walks: its block, its bytes; bytes appended out of a text; a text out of bytes that are frozen.
-/
import Derived.Test.YtiecpllnbekmoaaEvY
set_option linter.all false
namespace Go.Ev
open Go

/-- a block of the call's own, with its elements' type -/
def OwnE (h : H) (id : B) (el : Nat) (xs : List V) : Prop := ∃ blk, h.heap.get id = some blk ∧ blk.cur = 0 ∧ blk.min = 0 ∧ blk.fr = 0 ∧ blk.el = el ∧ B.val h.floor ≤ B.val id ∧ B.val id < B.val h.next ∧ ∀ i y, xs[i]? = some y → blk.cells.getN i = some y
theorem OwnE.own {h : H} {id : B} {el : Nat} {xs : List V} (o : OwnE h id el xs) : Own h id xs := by
  obtain ⟨blk, h1, h2, h3, h4, h5, h6, h7, h8⟩ := o
  exact ⟨blk, h1, h2, h3, h4, h6, h7, h8⟩
theorem OwnE.stay {p : B → Prop} {h h' : H} {id : B} {el : Nat} {xs : List V} (o : OwnE h id el xs) (s : Stay p h h') (hp : ¬ p id) : OwnE h' id el xs := by
  obtain ⟨blk, h1, h2, h3, h4, h5, h6, h7, h8⟩ := o
  exact ⟨blk, (s.get id h7 hp).trans h1, h2, h3, h4, h5, by rw [s.floor]; exact h6, Nat.lt_of_lt_of_le h7 s.next, h8⟩
theorem OwnE.lt {h : H} {id : B} {el : Nat} {xs : List V} (o : OwnE h id el xs) : B.val id < B.val h.next := by obtain ⟨_, _, _, _, _, _, _, h7, _⟩ := o; exact h7
theorem store_ownE {h : H} {id : B} {el : Nat} {xs : List V} {j fin : Nat} {y : V} (o : OwnE h id el xs) (hj : j < fin) (hfit : j < 2 ^ 37) (h1 : oneV y = true) : ∃ h', (∀ k, store h id 0 j fin [y] k = k h') ∧ OwnE h' id el (xs.set j y) ∧ Stay (fun i => i = id) h h' := by
  obtain ⟨blk, a1, a2, a3, a4, a8, a5, a6, a7⟩ := o
  obtain ⟨next, floor, heap⟩ := h
  obtain ⟨cur, min, sz, cells, bel, fr⟩ := blk
  simp only at a2 a3 a4 a7 a8
  subst a2; subst a3; subst a4; subst a8
  obtain ⟨tr, t1, t2, t3⟩ := setList_fine [y] j cells (by simp; omega)
  obtain ⟨hp, s1, s2, s3⟩ := setK_ok id (⟨0, 0, sz, tr, bel, 0⟩ : Blk) heap
  have e1 : B.geB floor id = true := by cases floor <;> first | rfl | (show Nat.ble _ _ = true; rw [Nat.ble_eq]; exact a5)
  have e2 : Nat.ble (Nat.add j 1) fin = true := by rw [Nat.ble_eq]; exact hj
  have e3 : allOne [y] = true := by show Bool.rec false true (oneV y) = true; rw [h1]
  have e4 : frOk 0 j = true := rfl
  have e5 : Nat.beq 0 0 = true := rfl
  have e6 : Nat.ble 0 0 = true := rfl
  have a1' : heap.get id = some ⟨0, 0, sz, cells, bel, 0⟩ := a1
  refine ⟨⟨next, floor, hp⟩, fun k => ?_, ⟨_, s2, rfl, rfl, rfl, rfl, a5, a6, fun i z hz => ?_⟩, ⟨rfl, Nat.le_refl _, fun i _ hi => s3 i hi⟩⟩
  · simp only [store, hK_mk, a1', optK_some, blkK_mk, List.length_singleton, e5, e6, e1, e2, e3, e4, ifK_true]
    rw [t1, s1]
  · show tr.getN i = some z
    rw [List.getElem?_set] at hz
    split at hz
    · rename_i hij
      subst hij
      split at hz
      · cases hz
        exact t2 0 y rfl
      · cases hz
    · rename_i hij
      rw [t3 i (by simp; omega)]
      exact a7 i z hz
section
variable {P : Program} {S : Spec} {l : List CO} {t : F} {h : H} {K : F → H → Prop}
theorem Ops.allocE {n : Nat} {b : Bool} {el : Nat} {z : List V} (hl : z.length < 2 ^ 37) (hf : B.val h.floor ≤ B.val h.next) (k : ∀ h1 id, Stay nowhere h h1 → id = h.next → B.val h1.next = B.val h.next + 1 → OwnE h1 id el z → Ops P S l (put n (.p id 0 0 z.length) t) h1 K) :
    Ops P S (.mk .none (.some (slOf n)) b (.mk (doAlloc el z)) :: l) t h K := by
  obtain ⟨h1, a1, a2, a3, blk, b1, b2, b3, b4, b5, b6, b7⟩ := alloc_new el z h (by omega)
  refine Ops.op (v := .p h.next 0 0 z.length) (h1 := h1) (fun k => ?_) (k h1 h.next a2 rfl a3 ⟨blk, b1, b3, b2, b6, b5, by rw [a2.floor]; exact hf, by omega, b7⟩)
  show alloc el z h (fun id h => k (.p id 0 0 z.length) h) = _
  rw [a1]
theorem Ops.storeE {b : Bool} {o x : O} {id : B} {el j fin : Nat} {y : V} {xs : List V} (e1 : oV o t = .p id 0 j fin) (e2 : cells (oV x t) = [y]) (ho : OwnE h id el xs) (hj : j < fin) (hfit : j < 2 ^ 37) (h1 : oneV y = true)
    (k : ∀ h', OwnE h' id el (xs.set j y) → Stay (fun i => i = id) h h' → Ops P S l t h' K) : Ops P S (.mk .none .none b (.mk (doStore 1 o x)) :: l) t h K := by
  obtain ⟨h', a1, a2, a3⟩ := store_ownE ho hj hfit h1
  exact Ops.op0 (fun k => store_eq e1 e2 a1 _ k) (k h' a2 a3)
end
theorem elK_own {h : H} {id : B} {el : Nat} {xs : List V} (o : OwnE h id el xs) (k : Unit → Bool) : elK h id 0 el k = k () := by
  obtain ⟨blk, h1, h2, h3, h4, h5, h6, h7, h8⟩ := o
  obtain ⟨next, floor, heap⟩ := h
  obtain ⟨cur, min, sz, cells, bel, fr⟩ := blk
  simp only at h3 h5
  subst h3; subst h5
  have h1' : heap.get id = some ⟨cur, 0, sz, cells, bel, fr⟩ := h1
  have e1 : Nat.ble 0 0 = true := rfl
  have e2 : Nat.beq bel bel = true := Nat.beq_refl bel
  simp only [elK, hK_mk, h1', optK_some, blkK_mk, e1, e2, ifK_true]

section
variable (cf : CallF) (t : F) (h : H) (k : V → H → Bool) (x y : O)
theorem ev_p2u : doP2U x cf t h k = vP (oV x t) fun id g off fin => load1 h id g off fin fun _ => k (.p id g off fin) h := by simp only [doP2U, oE_eq]
theorem ev_u2p (u size : Nat) : doU2P u size x cf t h k = vP (oV x t) fun id g off fin => ifK (Nat.beq off 0) fun _ => ifK (Nat.ble size fin) fun _ => elK h id g u fun _ => k (.p id g off fin) h := by simp only [doU2P, oE_eq]
theorem ev_ptr (ne : Bool) : doPtr ne x y cf t h k = vPZ (oV x t) (fun _ => vPZ (oV y t) (fun _ => k (.b (!ne)) h) fun _ _ _ _ => k (.b ne) h) (ptrK ne (oV y t) fun v => k v h) := by simp only [doPtr, oE_eq, fB_eq]
theorem ptrK_p0 (ne : Bool) (k : V → Bool) (id : B) (g off fin : Nat) : ptrK ne .p0 k id g off fin = k (.b ne) := by
  unfold ptrK
  rw [vPZ_p0, fB_eq]
theorem ptrK_same (ne : Bool) (k : V → Bool) (id : B) (g off fin fin' : Nat) : ptrK ne (.p id g off fin) k id g off fin' = k (.b (xor ne true)) := by
  unfold ptrK
  rw [vPZ_p, Nat.beq_refl, ifK_true, Nat.beq_refl, ifK_true, Nat.beq_refl, fB_eq]
theorem ev_sdata : doSData x cf t h k = vL (oV x t) (fun _ => k .p0 h) fun id g off len fin _ => ifK (Nat.ble 1 len) fun _ => k (.p id g off fin) h := by simp only [doSData, oE_eq]
end
theorem unpK_map : ∀ (m : Nat) (l : List UInt8) (acc : List V) (k : List V → Bool), l.length = m → unpK m (pk l) acc k = k (l.map bv ++ acc) := by
  intro m
  induction m with
  | zero =>
    intro l acc k h
    have : l = [] := List.eq_nil_of_length_eq_zero h
    subst this; rfl
  | succ m ih =>
    intro l acc k h
    have hne : l ≠ [] := by intro h0; subst h0; simp at h
    obtain ⟨l', b, rfl⟩ : ∃ l' b, l = l' ++ [b] := ⟨l.dropLast, l.getLast hne, (List.dropLast_concat_getLast hne).symm⟩
    have hs := pk_split l' [b]
    have hb : pk [b] = b.toNat := by simp [pk]
    simp only [List.length_cons, List.length_nil, Nat.zero_add, Nat.pow_one, hb] at hs
    show fN (Nat.mod (pk (l' ++ [b])) 256) (fun c => fN (Nat.div (pk (l' ++ [b])) 256) fun n => unpK m n (.i .u8 (.ofNat c) :: acc) k) = _
    rw [fN_eq, fN_eq]
    have e1 : Nat.mod (pk (l' ++ [b])) 256 = b.toNat := hs.2
    have e2 : Nat.div (pk (l' ++ [b])) 256 = pk l' := hs.1
    rw [e1, e2, ih l' _ k (by simpa using h)]
    simp [bv]
theorem allOne_bv : ∀ l : List UInt8, allOne (l.map bv) = true
  | [] => rfl
  | _ :: l => allOne_bv l
section
variable {P : Program} {S : Spec} {l : List CO} {t : F} {h : H} {K : F → H → Prop}
/-- append(v, text...) -/
theorem Ops.appS {n el : Nat} {b : Bool} {s x : O} {v : V} {a c : List UInt8} (e1 : oV s t = v) (e2 : oV x t = sv c) (hb : Buf h el 1 v (a.map bv)) (hf : B.val h.floor ≤ B.val h.next) (hl : a.length + c.length ≤ 1048576)
    (k : ∀ v' h', Buf h' el 1 v' ((a ++ c).map bv) → Stay (isOf v) h h' → (∀ i, isOf v' i → isOf v i ∨ B.val h.next ≤ B.val i) → Ops P S l (put n v' t) h' K) : Ops P S (.mk .none (.some (slOf n)) b (.mk (doAppendS el s x)) :: l) t h K := by
  obtain ⟨v', h', a1, a2, a3, a4⟩ := append_buf (vs := c.map bv) (n := c.length) hb hf (Nat.le_refl _) (by simp) (allOne_bv c) (by simpa using hl)
  refine Ops.op (fun k => ?_) (k v' h' (by rw [List.map_append]; exact a2) a3 a4)
  show oK x t (fun x => newCellsS x fun n vs => oK s t fun s => append2 el 1 s n vs h k) = _
  rw [oK_eq, e2]
  show unpK c.length (pk c) [] (fun vs => oK s t fun s => append2 el 1 s c.length vs h k) = _
  rw [unpK_map _ _ _ _ rfl, List.append_nil, oK_eq, e1, a1]
end
/-- a text out of a slice's bytes, which are frozen -/
theorem ustr_eq {h : H} {el : Nat} {w : V} {a : List UInt8} (hb : Buf h el 1 w (a.map bv)) (hl : a.length ≤ 1048576) (cf : CallF) (t : F) (x y : O)
    (e1 : ∀ k : V → Bool, vL w (fun _ => k .p0) (fun id g off len fin _ => k (.p id g off fin)) = k (oV x t)) (e2 : oV y t = .i .i64 (a.length : Int)) :
    ∃ h', (∀ k, doUStr el x y cf t h k = k (sv a) h') ∧ Stay (isOf w) h h' := by
  rcases hb with ⟨rfl, e⟩ | ⟨id, g, n, blk, rfl, b1, b2, b3, b4, b5, b6, b7, b8, b9, b10⟩
  · have : a = [] := by simpa using e
    subst this
    have hx : oV x t = .p0 := by
      have := e1 fun v => @decide (v = oV x t) (Classical.propDecidable _)
      simp at this
      exact this.symm
    refine ⟨h, fun k => ?_, Stay.refl _ _⟩
    simp only [doUStr, oE_eq, hx, e2, vI_i, kdEq_self, ifK_true, natK_cast, vPZ_p0]
    rfl
  · have hx : oV x t = .p id g 0 (a.map bv).length := by
      have := e1 fun v => @decide (v = oV x t) (Classical.propDecidable _)
      simp at this
      rw [← this]; simp
    have hn : n = a.length := by rw [List.length_map, Nat.mul_one] at b2; exact b2.symm
    subst hn
    have hrow : Row h id g 0 (a.map bv) := ⟨fun _ => ⟨blk, b5, b6.1⟩, fun i y hy => by
      unfold Ev.cell cellB
      rw [b5]
      show (if blk.min ≤ g then blk.cells.getN (0 + i) else none) = _
      rw [if_pos b6.1, Nat.zero_add]
      exact b10 i y hy⟩
    have hld : ∀ k, loadN h id g 0 (a.map bv).length a.length k = k (a.map bv) := fun k => by
      have := loadN_row (n := (a.map bv).length) hrow rfl (by intro h0; have := congrArg List.length h0; simp at this; subst this; simp at b1) (by omega : 0 + (a.map bv).length ≤ (a.map bv).length) k
      rwa [List.length_map] at this ⊢
    obtain ⟨next, floor, heap⟩ := h
    obtain ⟨cur, min, sz, cells, bel, fr⟩ := blk
    simp only at b6 b7 b8 b9 b10
    subst b9; subst b8
    obtain ⟨hp, s1, s2, s3⟩ := setK_ok id (⟨cur, min, sz, cells, bel, a.length + 2⟩ : Blk) heap
    have b5' : heap.get id = some ⟨cur, min, sz, cells, bel, 0⟩ := b5
    have g1 : Nat.ble min g = true := by rw [Nat.ble_eq]; exact b6.1
    have g2 : Nat.beq bel bel = true := Nat.beq_refl bel
    have g3 : B.geB floor id = true := by cases floor <;> first | rfl | (show Nat.ble _ _ = true; rw [Nat.ble_eq]; exact b3)
    have g4 : Nat.ble 1 a.length = true := by rw [Nat.ble_eq]; exact b1
    have g5 : Nat.ble a.length 1048576 = true := by rw [Nat.ble_eq]; exact hl
    refine ⟨⟨next, floor, hp⟩, fun k => ?_, ⟨rfl, Nat.le_refl _, fun i _ hi => s3 i fun e => hi (by subst e; exact ⟨_, _, _, _, _, rfl⟩)⟩⟩
    simp only [doUStr, oE_eq, hx, e2, vI_i, kdEq_self, ifK_true, natK_cast, vPZ_p]
    unfold uStrK
    have g6 : Nat.beq 0 0 = true := rfl
    rw [g6, ifK_true, g4, ifK_true, g5, ifK_true]
    simp only [elK, hK_mk, b5', optK_some, blkK_mk, g1, g2, ifK_true]
    rw [hld, pack_bv]
    have e0 : 0 * 256 ^ a.length + pk a = pk a := by rw [Nat.zero_mul, Nat.zero_add]
    rw [e0]
    simp only [freezeK, hK_mk, b5', optK_some, blkK_mk, g3, ifK_true]
    show fN (Nat.add a.length 2) (fun fr' => T.setK id ⟨cur, min, sz, cells, bel, fr'⟩ heap fun heap => k (.s a.length (pk a)) ⟨next, floor, heap⟩) = _
    rw [fN_eq]
    exact s1 _

/-- a Builder of the call's own, behind 'lo', in the blocks U, with the bytes a -/
structure Sb (h : H) (lo elB el8 : Nat) (id : B) (U : B → Prop) (a : List UInt8) : Prop where
  made : ∃ adr w, OwnE h id elB [adr, w] ∧ (adr = .p0 ∨ adr = .p id 0 0 2) ∧ Buf h el8 1 w (a.map bv) ∧ (∀ i, isOf w i → U i) ∧ ¬ isOf w id
  self : U id
  lo : ∀ i, U i → lo ≤ B.val i ∧ B.val i < B.val h.next
theorem Sb.stay {h h' : H} {lo elB el8 : Nat} {id : B} {U p : B → Prop} {a : List UInt8} (s : Sb h lo elB el8 id U a) (st : Stay p h h') (hp : ∀ i, U i → ¬ p i) : Sb h' lo elB el8 id U a := by
  obtain ⟨⟨adr, w, o, ha, b, hw, hn⟩, hs, hlo⟩ := s
  exact ⟨⟨adr, w, o.stay st (hp _ hs), ha, b.stay st fun i hi => hp i (hw i hi), hw, hn⟩, hs, fun i hi => ⟨(hlo i hi).1, Nat.lt_of_lt_of_le (hlo i hi).2 st.next⟩⟩

/-- a slice of one-cell elements of the call's own, behind 'lo' -/
structure Vb (h : H) (lo el : Nat) (v : V) (xs : List V) : Prop where
  buf : Buf h el 1 v xs
  own : ∀ i, isOf v i → lo ≤ B.val i
theorem Vb.lst {h : H} {lo el : Nat} {v : V} {xs : List V} (a : Vb h lo el v xs) : Lst h v xs := a.buf.lst
theorem Vb.nil (h : H) (lo el : Nat) : Vb h lo el .l0 [] := ⟨Buf.nil h el 1, fun i hi => by obtain ⟨_, _, _, _, _, e⟩ := hi; cases e⟩
theorem Vb.stay {p : B → Prop} {h h' : H} {lo el : Nat} {v : V} {xs : List V} (a : Vb h lo el v xs) (s : Stay p h h') (hp : ∀ i, isOf v i → ¬ p i) : Vb h' lo el v xs := ⟨a.buf.stay s hp, a.own⟩
theorem Vb.grow {h h' : H} {lo el : Nat} {v : V} {xs : List V} (a : Vb h lo el v xs) (s : Stay nowhere h h') : Vb h' lo el v xs := ⟨a.buf.grow s, a.own⟩
/-- append(v, y) with its literal -/
theorem Ops.pushV {P : Program} {S : Spec} {l : List CO} {t : F} {h : H} {K : F → H → Prop} {n m el lo : Nat} {b b' : Bool} {s o : O} {z v y : V} {xs : List V} (e1 : oV s t = v) (e2 : oV o t = y) (hk : knownV y = true) (hc : cells y = [y]) (h1 : oneV y = true) (a : Vb h lo el v xs) (hf : B.val h.floor ≤ B.val h.next) (hlo : lo ≤ B.val h.next) (hl : xs.length + 1 ≤ 1048576) (hm : m < 512) (e3 : ∀ u, oV s (put m u t) = v)
    (k : ∀ v' h' u, Vb h' lo el v' (xs ++ [y]) → Stay (isOf v) h h' → (∀ i, isOf v' i → isOf v i ∨ B.val h.next ≤ B.val i) → Ops P S l (put n v' (put m u t)) h' K) :
    Ops P S (.mk .none (.some (slOf m)) b (.mk (doBuildSlice el 1 [z] [Pt.mk 0 1 o])) :: .mk .none (.some (slOf n)) b' (.mk (doAppend el 1 s (.t (slOf m)))) :: l) t h K := by
  refine Ops.lit1 e2 hk hc hf fun hh id s1 e n1 o1 => ?_
  refine Ops.app1 (e3 _) (by rw [oV_t, get_put _ _ _ _ hm hm, if_pos rfl]) o1.row (a.buf.grow s1) (s1.fl hf) h1 hl fun v' h' b1 s2 hv => ?_
  refine k v' h' _ ⟨b1, fun i hi => ?_⟩ ?_ fun i hi => ?_
  · rcases hv i hi with h2 | h2
    · exact a.own i h2
    · have := s1.next; omega
  · refine ⟨s2.floor.trans s1.floor, Nat.le_trans s1.next s2.next, fun id' h1' h2 => (s2.get id' (Nat.lt_of_lt_of_le h1' s1.next) h2).trans (s1.get id' h1' fun h => h)⟩
  · rcases hv i hi with h2 | h2
    · exact .inl h2
    · exact .inr (Nat.le_trans s1.next h2)
/-! ### The bytes of a text: []byte(s) -/
/-- a new slice of bytes, in a block of the call's own that begins at 0; its end is marked, so that it is no Buf -/
theorem s2b_new (el : Nat) {l : List UInt8} {h : H} (hf : B.val h.floor ≤ B.val h.next) (hl : l.length ≤ 1048576) :
    ∃ h', (∀ (x : O) (t : F) (cf : CallF) (k : V → H → Bool), oV x t = sv l → doS2B el x cf t h k = k (.l h.next 0 0 l.length l.length none) h') ∧ Stay nowhere h h' ∧ B.val h'.next = B.val h.next + 1 ∧
      Row h' h.next 0 0 (l.map bv) ∧ Lst h' (.l h.next 0 0 l.length l.length none) (l.map bv) ∧
      ∃ cells, h'.heap.get h.next = some ⟨0, 0, l.length, cells, el, 1⟩ ∧ ∀ i y, (l.map bv)[i]? = some y → cells.getN i = some y := by
  obtain ⟨⟨nx, fl, heap⟩, a1, a2, a3, ⟨cur, min, sz, cells, bel, fr⟩, b1, b2, b3, b4, b5, b6, b7⟩ := alloc_new el (l.map bv) h (by simp; omega)
  simp only at b2 b3 b4 b5 b6 b7
  subst b2; subst b3; subst b5; subst b6
  rw [List.length_map] at b4
  subst b4
  obtain ⟨hp, s1, s2, s3⟩ := setK_ok h.next (⟨0, 0, l.length, cells, bel, 1⟩ : Blk) heap
  have hfl : fl = h.floor := a2.floor
  have g3 : B.geB fl h.next = true := by
    rw [hfl]
    cases hfx : h.floor <;> first | rfl | (rw [hfx] at hf; show Nat.ble _ _ = true; rw [Nat.ble_eq]; exact hf)
  have g5 : Nat.ble l.length 1048576 = true := by rw [Nat.ble_eq]; exact hl
  have b1' : heap.get h.next = some ⟨0, 0, l.length, cells, bel, 0⟩ := b1
  have hrow : Row ⟨nx, fl, hp⟩ h.next 0 0 (l.map bv) := by
    refine ⟨fun _ => ⟨_, s2, Nat.le_refl _⟩, fun i y hy => ?_⟩
    unfold Ev.cell cellB
    show (match hp.get h.next with | some b => if b.min ≤ 0 then b.cells.getN (0 + i) else none | none => none) = _
    rw [s2]
    simp only [Nat.le_refl, if_true, Nat.zero_add]
    exact b7 i y hy
  refine ⟨⟨nx, fl, hp⟩, fun x t cf k e => ?_, ⟨a2.floor, a2.next, fun id h1 h2 => (s3 id fun e => by rw [e] at h1; exact absurd h1 (Nat.lt_irrefl _)).trans (a2.get id h1 h2)⟩, a3, hrow,
    .inr ⟨h.next, 0, 0, l.length, none, by rw [List.length_map], by rw [List.length_map]; omega, by show B.val h.next < B.val nx; have : B.val nx = B.val h.next + 1 := a3; omega, hrow⟩, cells, s2, b7⟩
  simp only [doS2B, oE_eq, e]
  show ifK (Nat.ble l.length 1048576) (fun _ => unpK l.length (pk l) [] fun vs => alloc bel vs h fun id h => markK h id fun h => k (.l id 0 0 l.length l.length none) h) = _
  rw [g5, ifK_true, unpK_map _ _ _ _ rfl, List.append_nil, a1]
  simp only [markK, hK_mk, b1', optK_some, blkK_mk, g3, ifK_true]
  have g0 : Nat.beq 0 0 = true := rfl
  rw [g0, ifK_true]
  exact s1 _
section
variable {P : Program} {S : Spec} {l : List CO} {t : F} {h : H} {K : F → H → Prop}
/-- []byte(text) -/
theorem Ops.s2b {n el : Nat} {b : Bool} {x : O} {c : List UInt8} (e : oV x t = sv c) (hf : B.val h.floor ≤ B.val h.next) (hl : c.length ≤ 1048576)
    (k : ∀ h', Stay nowhere h h' → B.val h'.next = B.val h.next + 1 → Lst h' (.l h.next 0 0 c.length c.length none) (c.map bv) → Ops P S l (put n (.l h.next 0 0 c.length c.length none) t) h' K) : Ops P S (.mk .none (.some (slOf n)) b (.mk (doS2B el x)) :: l) t h K := by
  obtain ⟨h', a1, a2, a3, a4, a5, a6⟩ := s2b_new el hf hl
  exact Ops.op (fun k => a1 _ _ _ _ e) (k h' a2 a3 a5)
end

/-! ### Slices that grew, written into: what was appended last is the top of its block -/
/-- v is the newest slice of its block -/
def Top (h : H) (v : V) : Prop := ∀ id g off n fin cap, v = .l id g off n fin cap → ∃ blk, h.heap.get id = some blk ∧ blk.cur = g
theorem Top.nil (h : H) : Top h .l0 := fun _ _ _ _ _ _ e => by cases e
theorem Top.stay {p : B → Prop} {h h' : H} {v : V} (a : Top h v) (s : Stay p h h') (hl : ∀ id, isOf v id → B.val id < B.val h.next) (hp : ∀ id, isOf v id → ¬ p id) : Top h' v := fun id g off n fin cap e => by
  obtain ⟨blk, h1, h2⟩ := a id g off n fin cap e
  have i : isOf v id := ⟨_, _, _, _, _, e⟩
  exact ⟨blk, (s.get id (hl id i) (hp id i)).trans h1, h2⟩
theorem append_top {h : H} {el size n : Nat} {v : V} {xs vs : List V} (b : Buf h el size v xs) (hf : B.val h.floor ≤ B.val h.next) (hsz : 1 ≤ size) (hn : vs.length = n * size) (h1 : allOne vs = true) (hb : xs.length + vs.length ≤ 1048576) :
    ∃ v' h', (∀ k, append2 el size v n vs h k = k v' h') ∧ Buf h' el size v' (xs ++ vs) ∧ Stay (isOf v) h h' ∧ (∀ id, isOf v' id → isOf v id ∨ B.val h.next ≤ B.val id) ∧ Top h' v' := by
  have hle : n ≤ vs.length := by rw [hn]; exact Nat.le_mul_of_pos_right _ hsz
  rcases b with ⟨rfl, rfl⟩ | ⟨id, g, m, blk, rfl, b1, b2, b3, b4, b5, b6, b7, b8, b9, b10⟩
  · cases n with
    | zero =>
      have : vs = [] := List.eq_nil_of_length_eq_zero (by simpa using hn)
      subst this
      exact ⟨.l0, h, fun k => rfl, Buf.nil h el size, Stay.refl _ h, fun id i => .inl i, fun _ _ _ _ _ _ e => by cases e⟩
    | succ n =>
      obtain ⟨h', a1, a2, a3, blk, c1, c2, c3, c4, c5, c6, c7⟩ := alloc_new el vs h (by omega)
      have hble : Nat.ble (n + 1) 1048576 = true := by rw [Nat.ble_eq]; simp at hb; omega
      refine ⟨.l h.next 0 0 (n + 1) vs.length none, h', fun k => ?_, .inr ⟨h.next, 0, n + 1, blk, rfl, by omega, hn, by rw [a2.floor]; exact hf, by omega, c1, ⟨by omega, by omega⟩, c4, c5, c6, c7⟩, a2.mono fun _ _ h => h.elim, fun id i => ?_, fun _ _ _ _ _ _ e => by cases e; exact ⟨blk, c1, c3⟩⟩
      · show (ifK (Nat.ble (n + 1) 1048576) fun _ => alloc el vs h fun id h => k (.l id 0 0 (n + 1) vs.length none) h) = _
        rw [hble, ifK_true, a1]
      · obtain ⟨_, _, _, _, _, e⟩ := i; cases e; exact .inr (Nat.le_refl _)
  · obtain ⟨next, floor, heap⟩ := h
    obtain ⟨cur, min, sz, cells, bel, fr⟩ := blk
    simp only at b6 b7 b8 b9 b10
    obtain ⟨tr, t1, t2, t3⟩ := setList_fine vs sz cells (by omega)
    obtain ⟨hp, s1, s2, s3⟩ := setK_ok id (⟨Nat.succ cur, min, Nat.add sz (Nat.mul n size), tr, bel, fr⟩ : Blk) heap
    have e1 : Nat.ble min g = true := by rw [Nat.ble_eq]; exact b6.1
    have e2 : B.geB floor id = true := by
      cases floor <;> first | rfl | (show Nat.ble _ _ = true; rw [Nat.ble_eq]; exact b3)
    have e3 : Nat.beq (Nat.add 0 (Nat.mul m size)) sz = true := by
      have : 0 + m * size = sz := by omega
      show Nat.beq (0 + m * size) sz = true
      rw [this]; simp
    have e4 : Nat.beq xs.length sz = true := by rw [b7]; simp
    have e5 : Nat.ble 1 m = true := by rw [Nat.ble_eq]; exact b1
    have hm : m ≤ xs.length := by rw [b2]; exact Nat.le_mul_of_pos_right _ hsz
    have e6 : Nat.ble (Nat.add m n) 1048576 = true := by rw [Nat.ble_eq]; show m + n ≤ 1048576; omega
    have e7 : frOk fr sz = true := by rw [b9]; rfl
    have e8 : Nat.beq bel el = true := by rw [b8]; simp
    refine ⟨.l id (Nat.succ cur) 0 (m + n) (sz + n * size) none, ⟨next, floor, hp⟩, fun k => ?_, .inr ⟨id, Nat.succ cur, m + n, _, ?_, by omega, ?_, b3, b4, s2, ?_, ?_, b8, b9, fun i y hy => ?_⟩, ⟨rfl, Nat.le_refl _, fun id' _ hne => s3 id' fun e => hne (by subst e; exact ⟨_, _, _, _, _, rfl⟩)⟩, fun id' i => ?_, fun _ _ _ _ _ _ e => by cases e; exact ⟨_, s2, rfl⟩⟩
    · show appGrow el id g 0 m xs.length size n vs ⟨next, floor, heap⟩ k = _
      have b5' : heap.get id = some ⟨cur, min, sz, cells, bel, fr⟩ := b5
      simp only [appGrow, hK_mk, b5', optK_some, blkK_mk, e1, e2, e3, e4, e5, e6, h1, e7, e8, ifK_true, fN_eq]
      rw [t1, s1]; rfl
    · show V.l id (Nat.succ cur) 0 (m + n) (sz + n * size) none = V.l id (Nat.succ cur) 0 (m + n) (xs ++ vs).length none
      rw [List.length_append, hn, b7]
    · rw [List.length_append, hn, b2, Nat.add_mul]
    · exact ⟨by show min ≤ cur + 1; omega, Nat.le_refl _⟩
    · show Nat.add sz (Nat.mul n size) = (xs ++ vs).length
      rw [List.length_append, hn, b7]; rfl
    · show tr.getN i = some y
      by_cases hi : i < xs.length
      · rw [t3 i (.inl (by omega))]
        refine b10 i y ?_
        rwa [List.getElem?_append_left hi] at hy
      · have hi' : i - xs.length < vs.length := by
          have := (List.getElem?_eq_some_iff.1 hy).1
          simp at this; omega
        rw [List.getElem?_append_right (by omega)] at hy
        have := t2 (i - xs.length) y hy
        rwa [show sz + (i - xs.length) = i by omega] at this
    · obtain ⟨_, _, _, _, _, e⟩ := i; cases e; exact .inl ⟨_, _, _, _, _, rfl⟩

/-- at one place written -/
theorem store_buf {h : H} {el : Nat} {v : V} {xs : List V} {j : Nat} {y : V} (b : Buf h el 1 v xs) (tp : Top h v) (hj : j < xs.length) (hfit : j < 2 ^ 37) (h1 : oneV y = true) :
    ∃ h', (∀ k, store h (lid v) (lg v) (loff v + j) (lfin v) [y] k = k h') ∧ Buf h' el 1 v (xs.set j y) ∧ Top h' v ∧ Stay (isOf v) h h' := by
  rcases b with ⟨rfl, rfl⟩ | ⟨id, g, m, blk, rfl, b1, b2, b3, b4, b5, b6, b7, b8, b9, b10⟩
  · exact absurd hj (Nat.not_lt_zero _)
  obtain ⟨blk', b5', hcur⟩ := tp id g 0 m xs.length none rfl
  have hbb : blk' = blk := by rw [b5] at b5'; exact (Option.some.inj b5').symm
  subst hbb
  obtain ⟨next, floor, heap⟩ := h
  obtain ⟨cur, min, sz, cells, bel, fr⟩ := blk'
  simp only at b6 b7 b8 b9 b10 hcur
  subst hcur; subst b9
  obtain ⟨tr, t1, t2, t3⟩ := setList_fine [y] j cells (by simp; omega)
  obtain ⟨hp, s1, s2, s3⟩ := setK_ok id (⟨cur, cur, sz, tr, bel, 0⟩ : Blk) heap
  have e1 : B.geB floor id = true := by cases floor <;> first | rfl | (show Nat.ble _ _ = true; rw [Nat.ble_eq]; exact b3)
  have e2 : Nat.ble (Nat.add j 1) xs.length = true := by rw [Nat.ble_eq]; exact hj
  have e3 : allOne [y] = true := by show Bool.rec false true (oneV y) = true; rw [h1]
  have e4 : frOk 0 j = true := rfl
  have e5 : Nat.beq cur cur = true := Nat.beq_refl cur
  have e6 : Nat.ble min cur = true := by rw [Nat.ble_eq]; exact b6.1
  have b5'' : heap.get id = some ⟨cur, min, sz, cells, bel, 0⟩ := b5
  refine ⟨⟨next, floor, hp⟩, fun k => ?_, .inr ⟨id, cur, m, _, by rw [List.length_set], b1, by rw [List.length_set]; exact b2, b3, b4, s2, ⟨Nat.le_refl _, Nat.le_refl _⟩, by rw [List.length_set]; exact b7, b8, rfl, fun i z hz => ?_⟩, fun _ _ _ _ _ _ e => by cases e; exact ⟨_, s2, rfl⟩, ⟨rfl, Nat.le_refl _, fun i _ hi => s3 i fun e => hi (by subst e; exact ⟨_, _, _, _, _, rfl⟩)⟩⟩
  · show store ⟨next, floor, heap⟩ id cur (0 + j) xs.length [y] k = _
    rw [Nat.zero_add]
    simp only [store, hK_mk, b5'', optK_some, blkK_mk, List.length_singleton, e5, e6, e1, e2, e3, e4, ifK_true]
    rw [t1, s1]
  · show tr.getN i = some z
    rw [List.getElem?_set] at hz
    split at hz
    · rename_i hij
      subst hij
      first
      | (rw [if_pos hj] at hz; cases hz; exact t2 0 y rfl)
      | (cases hz; exact t2 0 y rfl)
    · rename_i hij
      rw [t3 i (by simp; omega)]
      exact b10 i z hz

section
variable {P : Program} {S : Spec} {l : List CO} {t : F} {h : H} {K : F → H → Prop}
theorem Ops.app1T {n el : Nat} {b : Bool} {s x : O} {id : B} {y v : V} {xs : List V} (e1 : oV s t = v) (e2 : oV x t = .l id 0 0 1 1 (some 1)) (hr : Row h id 0 0 [y]) (hb : Buf h el 1 v xs) (hf : B.val h.floor ≤ B.val h.next) (h1 : oneV y = true) (hl : xs.length + 1 ≤ 1048576)
    (k : ∀ v' h', Buf h' el 1 v' (xs ++ [y]) → Stay (isOf v) h h' → (∀ i, isOf v' i → isOf v i ∨ B.val h.next ≤ B.val i) → Top h' v' → Ops P S l (put n v' t) h' K) : Ops P S (.mk .none (.some (slOf n)) b (.mk (doAppend el 1 s x)) :: l) t h K := by
  obtain ⟨v', h', a1, a2, a3, a4, a5⟩ := append_top (vs := [y]) (n := 1) hb hf (Nat.le_refl _) rfl (by show Bool.rec false true (oneV y) = true; rw [h1]) hl
  exact Ops.op (fun k => app1_eq (n := n) e1 e2 hr a1 _ k) (k v' h' a2 a3 a4 a5)
/-- v[j] = y, where v grew and is the newest of its block -/
theorem Ops.storeT {b : Bool} {o x : O} {el j : Nat} {v y : V} {xs : List V} (e1 : oV o t = .p (lid v) (lg v) (loff v + j) (lfin v)) (e2 : cells (oV x t) = [y]) (hb : Buf h el 1 v xs) (tp : Top h v) (hj : j < xs.length) (hfit : j < 2 ^ 37) (h1 : oneV y = true)
    (k : ∀ h', Buf h' el 1 v (xs.set j y) → Top h' v → Stay (isOf v) h h' → Ops P S l t h' K) : Ops P S (.mk .none .none b (.mk (doStore 1 o x)) :: l) t h K := by
  obtain ⟨h', a1, a2, a3, a4⟩ := store_buf hb tp hj hfit h1
  refine Ops.op0 (v := .tu []) (fun k => ?_) (k h' a2 a3 a4)
  simp only [doStore, oE_eq, oK_eq, e1, vP_p, e2]
  have : Nat.beq [y].length 1 = true := rfl
  rw [this, ifK_true, a1]
end
/-- append(v, y) with its literal: what comes is the newest of its block -/
theorem Ops.pushT {P : Program} {S : Spec} {l : List CO} {t : F} {h : H} {K : F → H → Prop} {n m el lo : Nat} {b b' : Bool} {s o : O} {z v y : V} {xs : List V} (e1 : oV s t = v) (e2 : oV o t = y) (hk : knownV y = true) (hc : cells y = [y]) (h1 : oneV y = true) (a : Vb h lo el v xs) (hf : B.val h.floor ≤ B.val h.next) (hlo : lo ≤ B.val h.next) (hl : xs.length + 1 ≤ 1048576) (hm : m < 512) (e3 : ∀ u, oV s (put m u t) = v)
    (k : ∀ v' h' u, Vb h' lo el v' (xs ++ [y]) → Stay (isOf v) h h' → (∀ i, isOf v' i → isOf v i ∨ B.val h.next ≤ B.val i) → Top h' v' → Ops P S l (put n v' (put m u t)) h' K) :
    Ops P S (.mk .none (.some (slOf m)) b (.mk (doBuildSlice el 1 [z] [Pt.mk 0 1 o])) :: .mk .none (.some (slOf n)) b' (.mk (doAppend el 1 s (.t (slOf m)))) :: l) t h K := by
  refine Ops.lit1 e2 hk hc hf fun hh id s1 e n1 o1 => ?_
  refine Ops.app1T (e3 _) (by rw [oV_t, get_put _ _ _ _ hm hm, if_pos rfl]) o1.row (a.buf.grow s1) (s1.fl hf) h1 hl fun v' h' b1 s2 hv tp => ?_
  refine k v' h' _ ⟨b1, fun i hi => ?_⟩ ?_ (fun i hi => ?_) tp
  · rcases hv i hi with h2 | h2
    · exact a.own i h2
    · have := s1.next; omega
  · refine ⟨s2.floor.trans s1.floor, Nat.le_trans s1.next s2.next, fun id' h1' h2 => (s2.get id' (Nat.lt_of_lt_of_le h1' s1.next) h2).trans (s1.get id' h1' fun h => h)⟩
  · rcases hv i hi with h2 | h2
    · exact .inl h2
    · exact .inr (Nat.le_trans s1.next h2)
/-! ### Parts of a slice: v[a:], v[:b] -/
noncomputable def slLoV (size : Nat) (v w : V) (k : V → Bool) : Bool := vL v (fun _ => vI w fun _ n => natK n fun a => ifK (Nat.beq a 0) fun _ => ifK (Nat.beq 0 0) fun _ => k .l0) fun id g off len fin cap => vI w fun _ n => natK n fun a => ifK (Nat.ble a len) fun _ =>
  Option.rec (fun id g off len fin a b k => sliceN size id g off len fin a b fun v => k v) (fun c id g off len fin a b k => sliceC size id g off len fin c a b fun v => k v) cap id g off len fin a len k
noncomputable def slHiV (size : Nat) (v w : V) (k : V → Bool) : Bool := vL v (fun _ => vI w fun _ n => natK n fun b => ifK (Nat.beq 0 0) fun _ => ifK (Nat.beq b 0) fun _ => k .l0) fun id g off len fin cap => vI w fun _ n => natK n fun b => ifK (Nat.ble 0 b) fun _ =>
  Option.rec (fun id g off len fin a b k => sliceN size id g off len fin a b fun v => k v) (fun c id g off len fin a b k => sliceC size id g off len fin c a b fun v => k v) cap id g off len fin 0 b k
section
variable {cf : CallF} {t : F} {h : H} {k : V → H → Bool} {x a : O}
theorem ev_slLo (size : Nat) : doSlice size x (some a) none cf t h k = slLoV size (oV x t) (oV a t) fun v => k v h := by
  unfold slLoV
  simp only [doSlice, oE_eq, boundK]
  congr 1
  funext id g off len fin cap
  congr 1; funext _ n; congr 1; funext a; congr 1; funext _
  cases cap <;> rfl
theorem ev_slHi (size : Nat) : doSlice size x none (some a) cf t h k = slHiV size (oV x t) (oV a t) fun v => k v h := by
  unfold slHiV
  simp only [doSlice, oE_eq, boundK]
  congr 1
  funext id g off len fin cap
  congr 1; funext _ n; congr 1; funext a; congr 1; funext _
  cases cap <;> rfl
end
/-- the part behind n of a row that is made -/
def tailV (id : B) (K n : Nat) : V := if n = K then .l id 0 0 0 K (some 0) else .l id 0 n (K - n) K (some (K - n))
theorem slLo_row {id : B} {K n : Nat} {kd : IntKind} (hn : n ≤ K) (k : V → Bool) : slLoV 1 (.l id 0 0 K K (some K)) (.i kd (n : Int)) k = k (tailV id K n) := by
  have e1 : Nat.ble n K = true := by rw [Nat.ble_eq]; exact hn
  have e2 : Nat.ble K K = true := by rw [Nat.ble_eq]; exact Nat.le_refl _
  unfold slLoV tailV
  simp only [vL_l, vI_i, natK_cast, e1, ifK_true]
  by_cases e : n = K
  · subst e
    rw [if_pos rfl]
    show sliceC 1 id 0 0 n n n n n k = _
    have e3 : Nat.beq n n = true := Nat.beq_refl n
    unfold sliceC
    rw [e2, ifK_true, e3]
    rfl
  · rw [if_neg e]
    show sliceC 1 id 0 0 K K K n K k = _
    rw [sliceC_mid (Nat.le_refl _) (by omega), Nat.zero_add, Nat.mul_one]
theorem slHi_row {id : B} {K n : Nat} {kd : IntKind} (hn : n ≤ K) (hK : 0 < K) (k : V → Bool) : slHiV 1 (.l id 0 0 K K (some K)) (.i kd (n : Int)) k = k (.l id 0 0 n K (some K)) := by
  have e1 : Nat.ble 0 n = true := by rw [Nat.ble_eq]; exact Nat.zero_le _
  unfold slHiV
  simp only [vL_l, vI_i, natK_cast, e1, ifK_true]
  show sliceC 1 id 0 0 K K K 0 n k = _
  rw [sliceC_mid hn hK]
  simp only [Nat.zero_mul, Nat.add_zero, Nat.sub_zero]
theorem tail_lst {h : H} {id : B} {xs : List V} {K n : Nat} (o : Own h id xs) (hx : xs.length = K) (hn : n ≤ K) : Lst h (tailV id K n) (xs.drop n) := by
  have r := o.row
  obtain ⟨blk, h1, h2, h3, h4, h5, h6, h7⟩ := o
  unfold tailV
  by_cases e : n = K
  · rw [if_pos e]
    have : xs.drop n = [] := List.drop_eq_nil_of_le (by omega)
    rw [this]
    exact .inr ⟨id, 0, 0, K, _, rfl, Nat.zero_le _, h6, fun hne => absurd rfl hne, fun i y hy => by simp at hy⟩
  · rw [if_neg e]
    refine .inr ⟨id, 0, n, K, _, by rw [List.length_drop, hx], by rw [List.length_drop, hx]; omega, h6, fun _ => ⟨blk, h1, by omega⟩, fun i y hy => ?_⟩
    rw [List.getElem?_drop] at hy
    have := r.2 (n + i) y hy
    rwa [Nat.zero_add] at this

end Go.Ev
