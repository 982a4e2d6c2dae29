/-
  Slices that a call makes itself and appends to.
-/
import Derived.Test.YtiecpllnbekmoaaEvO
set_option linter.all false
namespace Go.Ev
open Go

/-- v is a slice of the call's own, that only it appends to: its cells are xs ('size' an element) -/
def Buf (h : H) (el size : Nat) (v : V) (xs : List V) : Prop :=
  (v = .l0 ∧ xs = []) ∨ ∃ id g n blk, v = .l id g 0 n xs.length none ∧ 1 ≤ n ∧ xs.length = n * size ∧ B.val h.floor ≤ B.val id ∧ B.val id < B.val h.next ∧ h.heap.get id = some blk ∧ (blk.min ≤ g ∧ g ≤ blk.cur) ∧ blk.size = xs.length ∧ blk.el = el ∧ blk.fr = 0 ∧
    ∀ i y, xs[i]? = some y → blk.cells.getN i = some y
/-- the block that a slice lies in -/
def isOf (v : V) : B → Prop := fun id => ∃ g off n fin cap, v = .l id g off n fin cap
theorem Buf.nil (h : H) (el size : Nat) : Buf h el size .l0 [] := .inl ⟨rfl, rfl⟩
theorem Buf.lst {h : H} {el : Nat} {v : V} {xs : List V} (b : Buf h el 1 v xs) : Lst h v xs := by
  rcases b with ⟨rfl, rfl⟩ | ⟨id, g, n, blk, rfl, h1, h2, h3, h4, h5, h6, h7, h8, h9, h10⟩
  · exact .inl ⟨rfl, rfl⟩
  · refine .inr ⟨id, g, 0, xs.length, none, by rw [h2, Nat.mul_one], by omega, h4, fun _ => ⟨blk, h5, h6.1⟩, fun i y hy => ?_⟩
    unfold Ev.cell cellB
    rw [h5]
    show (if blk.min ≤ g then blk.cells.getN (0 + i) else none) = _
    rw [if_pos h6.1, Nat.zero_add]
    exact h10 i y hy
theorem Buf.stay {p : B → Prop} {h h' : H} {el size : Nat} {v : V} {xs : List V} (b : Buf h el size v xs) (s : Stay p h h') (hp : ∀ id, isOf v id → ¬ p id) : Buf h' el size v xs := by
  rcases b with ⟨rfl, rfl⟩ | ⟨id, g, n, blk, rfl, h1, h2, h3, h4, h5, h6⟩
  · exact .inl ⟨rfl, rfl⟩
  · exact .inr ⟨id, g, n, blk, rfl, h1, h2, by rw [s.floor]; exact h3, Nat.lt_of_lt_of_le h4 s.next, (s.get id h4 (hp id ⟨_, _, _, _, _, rfl⟩)).trans h5, h6⟩
theorem Buf.grow {h h' : H} {el size : Nat} {v : V} {xs : List V} (b : Buf h el size v xs) (s : Stay nowhere h h') : Buf h' el size v xs := b.stay s fun _ _ h => h
/-- it was made here, behind h0 -/
theorem Buf.own {h : H} {el size : Nat} {v : V} {xs : List V} (b : Buf h el size v xs) {id : B} (i : isOf v id) : B.val h.floor ≤ B.val id ∧ B.val id < B.val h.next := by
  rcases b with ⟨rfl, rfl⟩ | ⟨id', g, n, blk, rfl, h1, h2, h3, h4, _⟩
  · obtain ⟨_, _, _, _, _, e⟩ := i; cases e
  · obtain ⟨_, _, _, _, _, e⟩ := i; cases e; exact ⟨h3, h4⟩

theorem append_buf {h : H} {el size n : Nat} {v : V} {xs vs : List V} (b : Buf h el size v xs) (hf : B.val h.floor ≤ B.val h.next) (hsz : 1 ≤ size) (hn : vs.length = n * size) (h1 : allOne vs = true) (hb : xs.length + vs.length ≤ 1048576) :
    ∃ v' h', (∀ k, append2 el size v n vs h k = k v' h') ∧ Buf h' el size v' (xs ++ vs) ∧ Stay (isOf v) h h' ∧ ∀ id, isOf v' id → isOf v id ∨ B.val h.next ≤ B.val id := by
  have hle : n ≤ vs.length := by rw [hn]; exact Nat.le_mul_of_pos_right _ hsz
  rcases b with ⟨rfl, rfl⟩ | ⟨id, g, m, blk, rfl, b1, b2, b3, b4, b5, b6, b7, b8, b9, b10⟩
  · cases n with
    | zero =>
      have : vs = [] := List.eq_nil_of_length_eq_zero (by simpa using hn)
      subst this
      exact ⟨.l0, h, fun k => rfl, Buf.nil h el size, Stay.refl _ h, fun id i => .inl i⟩
    | succ n =>
      obtain ⟨h', a1, a2, a3, blk, c1, c2, c3, c4, c5, c6, c7⟩ := alloc_new el vs h (by omega)
      have hble : Nat.ble (n + 1) 1048576 = true := by rw [Nat.ble_eq]; simp at hb; omega
      refine ⟨.l h.next 0 0 (n + 1) vs.length none, h', fun k => ?_, .inr ⟨h.next, 0, n + 1, blk, rfl, by omega, hn, by rw [a2.floor]; exact hf, by omega, c1, ⟨by omega, by omega⟩, c4, c5, c6, c7⟩, a2.mono fun _ _ h => h.elim, fun id i => ?_⟩
      · show (ifK (Nat.ble (n + 1) 1048576) fun _ => alloc el vs h fun id h => k (.l id 0 0 (n + 1) vs.length none) h) = _
        rw [hble, ifK_true, a1]
      · obtain ⟨_, _, _, _, _, e⟩ := i; cases e; exact .inr (Nat.le_refl _)
  · obtain ⟨next, floor, heap⟩ := h
    obtain ⟨cur, min, sz, cells, bel, fr⟩ := blk
    simp only at b6 b7 b8 b9 b10
    obtain ⟨tr, t1, t2, t3⟩ := setList_fine vs sz cells (by omega)
    obtain ⟨hp, s1, s2, s3⟩ := setK_ok id (⟨Nat.succ cur, min, Nat.add sz (Nat.mul n size), tr, bel, fr⟩ : Blk) heap
    have e1 : Nat.ble min g = true := by rw [Nat.ble_eq]; exact b6.1
    have e2 : B.geB floor id = true := by
      cases floor <;> first | rfl | (show Nat.ble _ _ = true; rw [Nat.ble_eq]; exact b3)
    have e3 : Nat.beq (Nat.add 0 (Nat.mul m size)) sz = true := by
      have : 0 + m * size = sz := by omega
      show Nat.beq (0 + m * size) sz = true
      rw [this]; simp
    have e4 : Nat.beq xs.length sz = true := by rw [b7]; simp
    have e5 : Nat.ble 1 m = true := by rw [Nat.ble_eq]; exact b1
    have hm : m ≤ xs.length := by rw [b2]; exact Nat.le_mul_of_pos_right _ hsz
    have e6 : Nat.ble (Nat.add m n) 1048576 = true := by rw [Nat.ble_eq]; show m + n ≤ 1048576; omega
    have e7 : frOk fr sz = true := by rw [b9]; rfl
    have e8 : Nat.beq bel el = true := by rw [b8]; simp
    refine ⟨.l id (Nat.succ cur) 0 (m + n) (sz + n * size) none, ⟨next, floor, hp⟩, fun k => ?_, .inr ⟨id, Nat.succ cur, m + n, _, ?_, by omega, ?_, b3, b4, s2, ?_, ?_, b8, b9, fun i y hy => ?_⟩, ⟨rfl, Nat.le_refl _, fun id' _ hne => s3 id' fun e => hne (by subst e; exact ⟨_, _, _, _, _, rfl⟩)⟩, fun id' i => ?_⟩
    · show appGrow el id g 0 m xs.length size n vs ⟨next, floor, heap⟩ k = _
      have b5' : heap.get id = some ⟨cur, min, sz, cells, bel, fr⟩ := b5
      simp only [appGrow, hK_mk, b5', optK_some, blkK_mk, e1, e2, e3, e4, e5, e6, h1, e7, e8, ifK_true, fN_eq]
      rw [t1, s1]; rfl
    · show V.l id (Nat.succ cur) 0 (m + n) (sz + n * size) none = V.l id (Nat.succ cur) 0 (m + n) (xs ++ vs).length none
      rw [List.length_append, hn, b7]
    · rw [List.length_append, hn, b2, Nat.add_mul]
    · exact ⟨by show min ≤ cur + 1; omega, Nat.le_refl _⟩
    · show Nat.add sz (Nat.mul n size) = (xs ++ vs).length
      rw [List.length_append, hn, b7]; rfl
    · show tr.getN i = some y
      by_cases hi : i < xs.length
      · rw [t3 i (.inl (by omega))]
        refine b10 i y ?_
        rwa [List.getElem?_append_left hi] at hy
      · have hi' : i - xs.length < vs.length := by
          have := (List.getElem?_eq_some_iff.1 hy).1
          simp at this; omega
        rw [List.getElem?_append_right (by omega)] at hy
        have := t2 (i - xs.length) y hy
        rwa [show sz + (i - xs.length) = i by omega] at this
    · obtain ⟨_, _, _, _, _, e⟩ := i; cases e; exact .inl ⟨_, _, _, _, _, rfl⟩

/-! ### Blocks that a call writes -/
/-- a block of the call's own, with the cells xs (and perhaps more behind them) -/
def Own (h : H) (id : B) (xs : List V) : Prop := ∃ blk, h.heap.get id = some blk ∧ blk.cur = 0 ∧ blk.min = 0 ∧ blk.fr = 0 ∧ B.val h.floor ≤ B.val id ∧ B.val id < B.val h.next ∧ ∀ i y, xs[i]? = some y → blk.cells.getN i = some y
theorem Own.stay {p : B → Prop} {h h' : H} {id : B} {xs : List V} (o : Own h id xs) (s : Stay p h h') (hp : ¬ p id) : Own h' id xs := by
  obtain ⟨blk, h1, h2, h3, h4, h5, h6, h7⟩ := o
  exact ⟨blk, (s.get id h6 hp).trans h1, h2, h3, h4, by rw [s.floor]; exact h5, Nat.lt_of_lt_of_le h6 s.next, h7⟩
theorem Own.row {h : H} {id : B} {xs : List V} (o : Own h id xs) : Row h id 0 0 xs := by
  obtain ⟨blk, h1, h2, h3, h4, h5, h6, h7⟩ := o
  refine ⟨fun _ => ⟨blk, h1, by omega⟩, fun i y hy => ?_⟩
  unfold Ev.cell cellB
  rw [h1]
  show (if blk.min ≤ 0 then blk.cells.getN (0 + i) else none) = _
  rw [if_pos (by omega), Nat.zero_add]
  exact h7 i y hy
theorem Own.lst {h : H} {id : B} {xs : List V} (o : Own h id xs) (cap : Option Nat) : Lst h (.l id 0 0 xs.length xs.length cap) xs := by
  have r := o.row
  obtain ⟨blk, h1, h2, h3, h4, h5, h6, h7⟩ := o
  exact .inr ⟨id, 0, 0, _, cap, rfl, by omega, h6, r⟩
/-- at one place written -/
theorem store_own {h : H} {id : B} {xs : List V} {j fin : Nat} {y : V} (o : Own h id xs) (hj : j < fin) (hfit : j < 2 ^ 37) (h1 : oneV y = true) : ∃ h', (∀ k, store h id 0 j fin [y] k = k h') ∧ Own h' id (xs.set j y) ∧ Stay (fun i => i = id) h h' := by
  obtain ⟨blk, a1, a2, a3, a4, a5, a6, a7⟩ := o
  obtain ⟨next, floor, heap⟩ := h
  obtain ⟨cur, min, sz, cells, bel, fr⟩ := blk
  simp only at a2 a3 a4 a7
  subst a2; subst a3; subst a4
  obtain ⟨tr, t1, t2, t3⟩ := setList_fine [y] j cells (by simp; omega)
  obtain ⟨hp, s1, s2, s3⟩ := setK_ok id (⟨0, 0, sz, tr, bel, 0⟩ : Blk) heap
  have e1 : B.geB floor id = true := by cases floor <;> first | rfl | (show Nat.ble _ _ = true; rw [Nat.ble_eq]; exact a5)
  have e2 : Nat.ble (Nat.add j 1) fin = true := by rw [Nat.ble_eq]; exact hj
  have e3 : allOne [y] = true := by show Bool.rec false true (oneV y) = true; rw [h1]
  have e4 : frOk 0 j = true := rfl
  have e5 : Nat.beq 0 0 = true := rfl
  have e6 : Nat.ble 0 0 = true := rfl
  have a1' : heap.get id = some ⟨0, 0, sz, cells, bel, 0⟩ := a1
  refine ⟨⟨next, floor, hp⟩, fun k => ?_, ⟨_, s2, rfl, rfl, rfl, a5, a6, fun i z hz => ?_⟩, ⟨rfl, Nat.le_refl _, fun i _ hi => s3 i hi⟩⟩
  · simp only [store, hK_mk, a1', optK_some, blkK_mk, List.length_singleton, e5, e6, e1, e2, e3, e4, ifK_true]
    rw [t1, s1]
  · show tr.getN i = some z
    rw [List.getElem?_set] at hz
    split at hz
    · rename_i hij
      subst hij
      split at hz
      · cases hz
        exact t2 0 y rfl
      · cases hz
    · rename_i hij
      rw [t3 i (by simp; omega)]
      exact a7 i z hz
theorem alloc_own (el : Nat) (cs : List V) (h : H) (hl : cs.length < 2 ^ 37) (hf : B.val h.floor ≤ B.val h.next) : ∃ h', (∀ k, alloc el cs h k = k h.next h') ∧ Stay nowhere h h' ∧ Own h' h.next cs ∧ B.val h'.next = B.val h.next + 1 := by
  obtain ⟨h', a1, a2, a3, blk, b1, b2, b3, b4, b5, b6, b7⟩ := alloc_new el cs h (by omega)
  exact ⟨h', a1, a2, ⟨blk, b1, b3, b2, b6, by rw [a2.floor]; exact hf, by omega, b7⟩, a3⟩

/-! ### In regions that draw: below the floor nothing is written -/
theorem reFloor_stay (h : H) : B.val (reFloor h).next = B.val h.next := by cases h; rfl
theorem Lst.refl_floor {h : H} {v : V} {xs : List V} (a : Lst h v xs) : Lst (reFloor h) v xs := by obtain ⟨n, f, hp⟩ := h; exact a
theorem Row.refl_floor {h : H} {id : B} {g off : Nat} {xs : List V} (a : Row h id g off xs) : Row (reFloor h) id g off xs := by obtain ⟨n, f, hp⟩ := h; exact a
theorem load1_refloor (h : H) (id : B) (g off fin : Nat) (k : V → Bool) : load1 (reFloor h) id g off fin k = load1 h id g off fin k := by cases h; rfl
theorem loadN_refloor (h : H) (id : B) (g off fin n : Nat) (k : List V → Bool) : loadN (reFloor h) id g off fin n k = loadN h id g off fin n k := by cases h; rfl
theorem unFloor_same (h : H) : unFloor h (reFloor h) = h := by cases h; rfl
theorem Stay.unfloor {p : B → Prop} {h h1 : H} (s : Stay p (reFloor h) h1) : Stay p h (unFloor h h1) := by
  obtain ⟨n, f, hp⟩ := h
  obtain ⟨n1, f1, hp1⟩ := h1
  exact ⟨rfl, s.next, s.get⟩
theorem Own.unfloor {h h1 : H} {id : B} {xs : List V} (o : Own h1 id xs) (hf : B.val h.floor ≤ B.val id) : Own (unFloor h h1) id xs := by
  obtain ⟨n, f, hp⟩ := h
  obtain ⟨n1, f1, hp1⟩ := h1
  obtain ⟨blk, a1, a2, a3, a4, a5, a6, a7⟩ := o
  exact ⟨blk, a1, a2, a3, a4, hf, a6, a7⟩

theorem ev_convR (cf : CallF) (t : F) (h : H) (k : V → H → Bool) (kd : IntKind) (x : O) : doConv kd x cf t h k = vIR (oV x t) (fun _ n => k (.i kd (kd.wrap n)) h) fun _ m r hi => ifK (Nat.ble hi (mxOf kd)) fun _ => k (.r kd m r hi) h := by simp only [doConv, oE_eq, wrapF_eq]
theorem ev_rem (cf : CallF) (t : F) (h : H) (k : V → H → Bool) (x y : O) : doRem x y cf t h k = vI (oV y t) fun kd' b => vIR (oV x t) (fun kd a => ifK (kdEq kd kd') fun _ => fRem kd a b fun v => k v h) fun kd m r _ => remR kd' b (fun v => k v h) kd m r := by simp only [doRem, oE_eq, oK_eq]
theorem f_rem {kd : IntKind} {a b : Nat} (hb : 0 < b) (k : V → Bool) : fRem kd (a : Int) (b : Int) k = k (.i kd ((a % b : Nat) : Int)) := by
  have e : eqI (b : Int) 0 = false := by rw [eqI_eq]; simp; omega
  unfold fRem
  rw [e]
  show forceI (Int.tmod (a : Int) (b : Int)) (fun n => k (.i kd n)) = _
  rw [forceI_eq]; rfl
theorem ev_build0 (cf : CallF) (t : F) (h : H) (k : V → H → Bool) (z : List V) : doBuild z [] cf t h k = k (.a z) h := rfl

section
variable {P : Program} {S : Spec} {l : List CO} {t : F} {h : H} {K : F → H → Prop}
theorem Drs.pure {n : Nat} {r : Run} {v : V} (e : ∀ k, r (cfS P S) t (reFloor h) k = k v (reFloor h)) (k : Drs P S l (put n v t) h K) : Drs P S (.mk .none (.some (slOf n)) false (.mk r) :: l) t h K :=
  Drs.op e (by rw [unFloor_same]; exact k)
/-- a variable of its own -/
theorem Ops.alloc1 {n : Nat} {b : Bool} {el : Nat} {z : V} (hf : B.val h.floor ≤ B.val h.next) (k : ∀ h1 id, Stay nowhere h h1 → id = h.next → B.val h1.next = B.val h.next + 1 → Own h1 id [z] → Ops P S l (put n (.p id 0 0 1) t) h1 K) :
    Ops P S (.mk .none (.some (slOf n)) b (.mk (doAlloc el [z])) :: l) t h K := by
  obtain ⟨h1, a1, a2, a3, a4⟩ := alloc_own el [z] h (by show 1 < 2 ^ 37; decide) hf
  refine Ops.op (v := .p h.next 0 0 1) (h1 := h1) (fun k => ?_) (k h1 h.next a2 rfl a4 a3)
  show alloc el [z] h (fun id h => k (.p id 0 0 1) h) = _
  rw [a1]
theorem store_eq {o x : O} {id : B} {j fin : Nat} {y : V} {h' : H} (e1 : oV o t = .p id 0 j fin) (e2 : cells (oV x t) = [y]) (hs : ∀ k : H → Bool, store h id 0 j fin [y] k = k h') (cf : CallF) (k : V → H → Bool) : doStore 1 o x cf t h k = k (.tu []) h' := by
  simp only [doStore, oE_eq, oK_eq, e1, vP_p, e2]
  have : Nat.beq [y].length 1 = true := rfl
  rw [this, ifK_true, hs]
theorem Ops.store {b : Bool} {o x : O} {id : B} {j fin : Nat} {y : V} {xs : List V} (e1 : oV o t = .p id 0 j fin) (e2 : cells (oV x t) = [y]) (ho : Own h id xs) (hj : j < fin) (hfit : j < 2 ^ 37) (h1 : oneV y = true)
    (k : ∀ h', Own h' id (xs.set j y) → Stay (fun i => i = id) h h' → Ops P S l t h' K) : Ops P S (.mk .none .none b (.mk (doStore 1 o x)) :: l) t h K := by
  obtain ⟨h', a1, a2, a3⟩ := store_own ho hj hfit h1
  exact Ops.op0 (fun k => store_eq e1 e2 a1 _ k) (k h' a2 a3)
theorem Drs.bar0 {r : Run} {v : V} {h1 : H} (e : ∀ k, r (cfS P S) t h k = k v h1) (k : Drs P S l t h1 K) : Drs P S (.mk .none .none true (.mk r) :: l) t h K := by
  obtain ⟨t', h', a1, a2⟩ := k
  refine ⟨t', h', fun k => ?_, a2⟩
  show r (cfS P S) t h (fun v h => execDr (cfS P S) l t h k) = _
  rw [e, a1]
theorem Drs.store {o x : O} {id : B} {j fin : Nat} {y : V} {xs : List V} (e1 : oV o t = .p id 0 j fin) (e2 : cells (oV x t) = [y]) (ho : Own h id xs) (hj : j < fin) (hfit : j < 2 ^ 37) (h1 : oneV y = true)
    (k : ∀ h', Own h' id (xs.set j y) → Stay (fun i => i = id) h h' → Drs P S l t h' K) : Drs P S (.mk .none .none true (.mk (doStore 1 o x)) :: l) t h K := by
  obtain ⟨h', a1, a2, a3⟩ := store_own ho hj hfit h1
  exact Drs.bar0 (fun k => store_eq e1 e2 a1 _ k) (k h' a2 a3)
/-- append(nil, list...) in a region that draws: a block of its own -/
theorem Drs.copyNew {n el : Nat} {s x : O} {xs : List V} (e1 : oV s t = .l0) (e2 : Lst h (oV x t) xs) (hne : xs ≠ []) (h1 : allOne xs = true) (hb : xs.length ≤ 1048576) (hf : B.val h.floor ≤ B.val h.next)
    (k : ∀ h' id, Stay nowhere h h' → id = h.next → B.val h'.next = B.val h.next + 1 → Own h' id xs → Drs P S l (put n (.l id 0 0 xs.length xs.length none) t) h' K) : Drs P S (.mk .none (.some (slOf n)) false (.mk (doAppend el 1 s x)) :: l) t h K := by
  obtain ⟨h', a1, a2, a3, a4⟩ := alloc_own el xs (reFloor h) (by omega) (by rw [reFloor_floor, reFloor_next]; exact Nat.le_refl _)
  rw [reFloor_next] at a1 a3 a4
  refine Drs.op (v := .l h.next 0 0 xs.length xs.length none) (h1 := h') (fun k => ?_) (k _ h.next a2.unfloor rfl (by obtain ⟨n, f, hp⟩ := h; obtain ⟨n1, f1, hp1⟩ := h'; exact a4) (a3.unfloor hf))
  · simp only [doAppend, oK_eq, e1]
    rcases e2 with ⟨_, rfl⟩ | ⟨id, g, off, fin, cap, e, h2, h3, h4⟩
    · exact absurd rfl hne
    · rw [e]
      obtain ⟨m, hm⟩ : ∃ m, xs.length = m + 1 := ⟨xs.length - 1, by have := List.length_pos_iff.2 hne; omega⟩
      have c1 : newCells 1 (.l id g off xs.length fin cap) (reFloor h) (fun n vs => append2 el 1 .l0 n vs (reFloor h) k) = append2 el 1 .l0 xs.length xs (reFloor h) k := by
        show natC xs.length _ _ = _
        rw [hm]
        show loadN (reFloor h) id g off fin (Nat.mul (m + 1) 1) (fun vs => append2 el 1 .l0 (m + 1) vs (reFloor h) k) = _
        rw [loadN_refloor]
        have e3 : Nat.mul (m + 1) 1 = xs.length := by rw [hm]; exact Nat.mul_one _
        rw [e3, loadN_row h4 rfl hne h2]
      rw [c1, hm]
      have hble : Nat.ble (m + 1) 1048576 = true := by rw [Nat.ble_eq]; omega
      show (ifK (Nat.ble (m + 1) 1048576) fun _ => alloc el xs (reFloor h) fun id h => k (.l id 0 0 (m + 1) xs.length none) h) = _
      rw [hble, ifK_true, a1, hm]
/-- a literal of one element -/
theorem Drs.lit1 {n el : Nat} {o : O} {y : V} (e1 : oV o t = y) (h1 : knownV y = true) (h2 : cells y = [y]) (hf : B.val h.floor ≤ B.val h.next)
    (k : ∀ h' id, Stay nowhere h h' → id = h.next → B.val h'.next = B.val h.next + 1 → Own h' id [y] → Drs P S l (put n (.l id 0 0 1 1 (some 1)) t) h' K) {z : V} : Drs P S (.mk .none (.some (slOf n)) false (.mk (doBuildSlice el 1 [z] [Pt.mk 0 1 o])) :: l) t h K := by
  obtain ⟨h', a1, a2, a3, a4⟩ := alloc_own el [y] (reFloor h) (by show 1 < 2 ^ 37; decide) (by rw [reFloor_floor, reFloor_next]; exact Nat.le_refl _)
  rw [reFloor_next] at a1 a3 a4
  refine Drs.op (v := .l h.next 0 0 1 1 (some 1)) (h1 := h') (fun k => ?_) (k _ h.next a2.unfloor rfl (by obtain ⟨n, f, hp⟩ := h; obtain ⟨n1, f1, hp1⟩ := h'; exact a4) (a3.unfloor hf))
  show oK o t (fillP 0 1 (fun t cs k => k cs) t [z] fun cs => alloc el cs (reFloor h) fun id h => k (.l id 0 0 1 cs.length (some 1)) h) = _
  rw [oK_eq, e1]
  unfold fillP
  rw [h1, ifK_true, h2]
  show alloc el [y] (reFloor h) (fun id h => k (.l id 0 0 1 1 (some 1)) h) = _
  rw [a1]
/-- append of a literal of one element to an own slice -/
theorem app1_eq {el n : Nat} {s x : O} {id : B} {y : V} {v' : V} {h' : H} {v : V} (e1 : oV s t = v) (e2 : oV x t = .l id 0 0 1 1 (some 1)) (hr : Row h id 0 0 [y]) (ha : ∀ k : V → H → Bool, append2 el 1 v 1 [y] h k = k v' h') (cf : CallF) (k : V → H → Bool) :
    doAppend el 1 s x cf t h k = k v' h' := by
  simp only [doAppend, oK_eq, e1, e2]
  show loadN h id 0 0 1 (Nat.mul 1 1) (fun vs => append2 el 1 v 1 vs h k) = _
  have : Nat.mul 1 1 = 1 := rfl
  rw [this, loadN_row (n := 1) (vs := [y]) hr rfl (by simp) (by omega), ha]
theorem Drs.app1 {n el : Nat} {s x : O} {id : B} {y v : V} {xs : List V} (e1 : oV s t = v) (e2 : oV x t = .l id 0 0 1 1 (some 1)) (hr : Row h id 0 0 [y]) (hb : Buf h el 1 v xs) (hf : B.val h.floor ≤ B.val h.next) (h1 : oneV y = true) (hl : xs.length + 1 ≤ 1048576)
    (k : ∀ v' h', Buf h' el 1 v' (xs ++ [y]) → Stay (isOf v) h h' → (∀ i, isOf v' i → isOf v i ∨ B.val h.next ≤ B.val i) → oneV v' = true → Drs P S l (put n v' t) h' K) : Drs P S (.mk .none (.some (slOf n)) true (.mk (doAppend el 1 s x)) :: l) t h K := by
  obtain ⟨v', h', a1, a2, a3, a4⟩ := append_buf (vs := [y]) (n := 1) hb hf (Nat.le_refl _) rfl (by show Bool.rec false true (oneV y) = true; rw [h1]) hl
  refine Drs.bar (fun k => app1_eq (n := n) e1 e2 hr a1 _ k) (k v' h' a2 a3 a4 ?_)
  rcases a2 with ⟨rfl, _⟩ | ⟨_, _, _, _, rfl, _⟩ <;> rfl
end

theorem Ok.mid {P : Program} {nt : Nat} {a b : CC} {t : F} {h : H} {K : X → F → H → Prop} (Q : F → H → Prop) (k1 : Ok P nt a t h (Then Q K)) (k2 : ∀ t h, Q t h → Ok P nt b t h K) : Ok P nt (.seq a b) t h K :=
  Ok.seq (k1.mono fun x t h hq => by
    cases x with
    | normal => exact k2 t h hq
    | exit id => exact hq
    | ret => exact hq)
theorem Stay.fl {h h' : H} {p : B → Prop} (s : Stay p h h') (hf : B.val h.floor ≤ B.val h.next) : B.val h'.floor ≤ B.val h'.next := by rw [s.floor]; exact Nat.le_trans hf s.next

section
variable {P : Program} {S : Spec} {l : List CO} {t : F} {h : H} {K : F → H → Prop}
/-- a guard that was left out itself -/
theorem Ops.g0u {g n : Nat} {w b : Bool} {r : CR} (e : get g t = .tu []) (k : Ops P S l (put n (.tu []) t) h K) : Ops P S (.mk (.some (slOf g) w) (.some (slOf n)) b r :: l) t h K := by
  obtain ⟨t', h', a1, a2⟩ := k
  refine ⟨t', h', fun k => ?_, a2⟩
  have e0 : execOps (cfS P S) (.mk (.some (slOf g) w) (.some (slOf n)) b r :: l) t h k = vG (get g t) w fun x => opGo x r (.some (slOf n)) (cfS P S) (execOps (cfS P S) l) t h k := rfl
  rw [e0, e]
  show sPut (slOf n) (.tu []) t (fun t => execOps (cfS P S) l t h k) = _
  rw [sPut_put, a1]
theorem Drs.g0u {g n : Nat} {w b : Bool} {r : CR} (e : get g t = .tu []) (k : Drs P S l (put n (.tu []) t) h K) : Drs P S (.mk (.some (slOf g) w) (.some (slOf n)) b r :: l) t h K := by
  obtain ⟨t', h', a1, a2⟩ := k
  refine ⟨t', h', fun k => ?_, a2⟩
  have e0 : execDr (cfS P S) (.mk (.some (slOf g) w) (.some (slOf n)) b r :: l) t h k = vG (get g t) w fun x => drGo x b r (.some (slOf n)) (cfS P S) (execDr (cfS P S) l) t h k := rfl
  rw [e0, e]
  show sPut (slOf n) (.tu []) t (fun t => execDr (cfS P S) l t h k) = _
  rw [sPut_put, a1]
end

end Go.Ev
