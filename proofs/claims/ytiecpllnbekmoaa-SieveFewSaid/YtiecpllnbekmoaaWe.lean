/-
  The bytes of a text, written into.
-/
import Derived.Test.YtiecpllnbekmoaaWd
set_option linter.all false
namespace Go.Ev
open Go

/-- a block of the call's own, made of a text's bytes or of cells -/
def Own1 (h : H) (id : B) (xs : List V) : Prop := ∃ blk, h.heap.get id = some blk ∧ blk.cur = 0 ∧ blk.min = 0 ∧ blk.fr ≤ 1 ∧ B.val h.floor ≤ B.val id ∧ B.val id < B.val h.next ∧ ∀ i y, xs[i]? = some y → blk.cells.getN i = some y
theorem Own1.row {h : H} {id : B} {xs : List V} (o : Own1 h id xs) : Row h id 0 0 xs := by
  obtain ⟨blk, h1, h2, h3, h4, h5, h6, h7⟩ := o
  refine ⟨fun _ => ⟨blk, h1, by omega⟩, fun i y hy => ?_⟩
  unfold Ev.cell cellB
  rw [h1]
  show (if blk.min ≤ 0 then blk.cells.getN (0 + i) else none) = _
  rw [if_pos (by omega), Nat.zero_add]
  exact h7 i y hy
theorem Own1.lst {h : H} {id : B} {xs : List V} (o : Own1 h id xs) (cap : Option Nat) : Lst h (.l id 0 0 xs.length xs.length cap) xs := by
  have r := o.row
  obtain ⟨blk, h1, h2, h3, h4, h5, h6, h7⟩ := o
  exact .inr ⟨id, 0, 0, _, cap, rfl, by omega, h6, r⟩
theorem store_own1 {h : H} {id : B} {xs : List V} {j fin : Nat} {y : V} (o : Own1 h id xs) (hj : j < fin) (hfit : j < 2 ^ 37) (h1 : oneV y = true) : ∃ h', (∀ k, store h id 0 j fin [y] k = k h') ∧ Own1 h' id (xs.set j y) ∧ Stay (fun i => i = id) h h' := by
  obtain ⟨blk, a1, a2, a3, a4, a5, a6, a7⟩ := o
  obtain ⟨next, floor, heap⟩ := h
  obtain ⟨cur, min, sz, cells, bel, fr⟩ := blk
  simp only at a2 a3 a4 a7
  subst a2; subst a3
  obtain ⟨tr, t1, t2, t3⟩ := setList_fine [y] j cells (by simp; omega)
  obtain ⟨hp, s1, s2, s3⟩ := setK_ok id (⟨0, 0, sz, tr, bel, fr⟩ : Blk) heap
  have e1 : B.geB floor id = true := by cases floor <;> first | rfl | (show Nat.ble _ _ = true; rw [Nat.ble_eq]; exact a5)
  have e2 : Nat.ble (Nat.add j 1) fin = true := by rw [Nat.ble_eq]; exact hj
  have e3 : allOne [y] = true := by show Bool.rec false true (oneV y) = true; rw [h1]
  have e4 : frOk fr j = true := by
    match fr, a4 with
    | 0, _ => rfl
    | 1, _ => rfl
  have e5 : Nat.beq 0 0 = true := rfl
  have e6 : Nat.ble 0 0 = true := rfl
  have a1' : heap.get id = some ⟨0, 0, sz, cells, bel, fr⟩ := a1
  refine ⟨⟨next, floor, hp⟩, fun k => ?_, ⟨_, s2, rfl, rfl, a4, a5, a6, fun i z hz => ?_⟩, ⟨rfl, Nat.le_refl _, fun i _ hi => s3 i hi⟩⟩
  · simp only [store, hK_mk, a1', optK_some, blkK_mk, List.length_singleton, e5, e6, e1, e2, e3, e4, ifK_true]
    rw [t1, s1]
  · show tr.getN i = some z
    rw [List.getElem?_set] at hz
    split at hz
    · rename_i hij
      subst hij
      split at hz
      · cases hz
        exact t2 0 y rfl
      · cases hz
    · rename_i hij
      rw [t3 i (by simp; omega)]
      exact a7 i z hz
section
variable {P : Program} {h : H} {N : Nx} {id : B} {xs : List V} {j fin el : Nat} {x y : V}
theorem ST.own1 (o : Own1 h id xs) (hc : cells x = [y]) (h1 : oneV y = true) (hj : j < fin) (hfit : j < 2 ^ 37) (k : ∀ h', Own1 h' id (xs.set j y) → Stay (fun i => i = id) h h' → N.go P (.tu []) h') : ST P 1 (.p id 0 j fin) x h N := by
  obtain ⟨h', a1, a2, a3⟩ := store_own1 o hj hfit h1
  refine hm_of (v := .tu []) (h' := h') (fun k => ?_) (k h' a2 a3)
  show ifK (Nat.beq (cells x).length 1) (fun _ => store h id 0 j fin (cells x) fun h => k (.tu []) h) = _
  rw [hc]
  show store h id 0 j fin [y] (fun h => k (.tu []) h) = _
  rw [a1]
/-- []byte(text), to be written into -/
theorem SB.own {c : List UInt8} (hf : B.val h.floor ≤ B.val h.next) (hl : c.length ≤ 1048576)
    (k : ∀ h', Stay nowhere h h' → B.val h'.next = B.val h.next + 1 → Own1 h' h.next (c.map bv) → N.go P (.l h.next 0 0 c.length c.length none) h') : SB P el (sv c) h N := by
  obtain ⟨h', a1, a2, a3, a4, a5, cs, a6, a7⟩ := s2b_new el hf hl
  have := fun k => a1 (.c (sv c)) F.zero (fun _ _ _ _ => false) k rfl
  refine hm_of (v := .l h.next 0 0 c.length c.length none) (h' := h') (fun k => ?_) (k h' a2 a3 ⟨_, a6, rfl, rfl, by show 1 ≤ 1; omega, by rw [a2.floor]; exact hf, by omega, a7⟩)
  have e := this k
  simp only [doS2B, oE_eq] at e
  exact e
end
/-- string([]byte{..}) in a region that draws -/
theorem AL.strU {P : Program} {t : F} {h : H} {K : F → H → Prop} {l : List CO} {el n m : Nat} {cs : List V} {bs : List UInt8} {len fin : Nat} {cap : Option Nat} (hc : cs = bs.map bv) (hne : bs ≠ []) (e1 : len = bs.length) (e2 : fin = bs.length) (hl : bs.length ≤ 1048576) (hf : B.val h.floor ≤ B.val h.next)
    (k : ∀ h' u, Stay nowhere h h' → DO P l (put n (sv bs) (put m u t)) h' K) : AL P el cs (fun id => .l id 0 0 len fin cap) (reFloor h) (.u m (.mk .none (.some (slOf n)) false (.mk (doB2S (.t (slOf m)))) :: l) t h K) := by
  subst hc; subst e1; subst e2
  have hn : (reFloor h).next = h.next := by cases h; rfl
  refine AL.own (by rw [List.length_map]; omega) (by cases h; exact Nat.le_refl _) fun h1' s1 n1 o1 => ?_
  have hL := (o1.unfloor (h := h) (by rw [hn]; exact hf)).lst cap
  rw [List.length_map] at hL
  rw [go_u, do_u, or_b2s, oV_t, get_put', if_pos rfl, bs_re, hL.bs hne]
  exact k _ _ s1.unfloor
/-! ### Parts of slices that came in -/
/-- a slice whose end is where it should be -/
def Sw (v : V) : Prop := v = .l0 ∨ ∃ id g off n fin cap, v = .l id g off n fin cap ∧ match cap with
  | some c => n ≤ c
  | none => fin = off + n
theorem sw_abs {W : World} {h : H} {x : Value} {xs : List V} (a : Lst h (absV W x) xs) : Sw (absV W x) := by
  have nol : ∀ v : V, Lst h v xs → v ≠ .u := by
    rintro _ (⟨rfl, _⟩ | ⟨id, g, off, fin, cap, rfl, _⟩) <;> intro e <;> cases e
  have np : ∀ id g off fin, ¬ Lst h (.p id g off fin) xs := by
    rintro id g off fin (⟨e, _⟩ | ⟨_, _, _, _, _, e, _⟩) <;> cases e
  revert a
  unfold absV
  split
  all_goals intro a
  all_goals first
    | exact .inl rfl
    | (exfalso; rcases a with ⟨e, _⟩ | ⟨_, _, _, _, _, e, _⟩ <;> cases e; done)
    | skip
  · split at a
    · exact absurd a (np _ _ _ _)
    · exact absurd rfl (nol _ a)
  · rename_i hh
    split at a
    · rename_i hb
      rw [if_pos hb]
      exact .inr ⟨_, _, _, _, _, _, rfl, hb.2⟩
    · exact absurd rfl (nol _ a)
  · split at a
    · rename_i hb
      rw [if_pos hb]
      exact .inr ⟨_, _, _, _, _, _, rfl, rfl⟩
    · exact absurd rfl (nol _ a)
/-- v[:z] -/
theorem slHi_lst {P : Program} {h : H} {v : V} {xs : List V} {kd : IntKind} {k : Nat} (a : Lst h v xs) (w : Sw v) (hk : k ≤ xs.length) : ∃ u, Lst h u (xs.take k) ∧ Sw u ∧ ∀ (g : H) (N : Nx), H2 P (slHiV 1) v (.i kd (k : Int)) g N = N.go P u g := by
  rcases a with ⟨rfl, rfl⟩ | ⟨id, g, off, fin, cap, rfl, h2, h3, h4⟩
  · have : k = 0 := by simpa using hk
    subst this
    exact ⟨.l0, .inl ⟨rfl, by simp⟩, .inl rfl, fun g N => hv_of fun k => rfl⟩
  · have e0 : Nat.ble 0 k = true := by rw [Nat.ble_eq]; omega
    have hrow : ∀ m, m ≤ xs.length → Row h id g off (xs.take m) := fun m hm => by
      refine ⟨fun hne => h4.1 fun e => hne (by rw [e]; simp), fun i y hy => h4.2 i y ?_⟩
      rw [List.getElem?_take] at hy
      split at hy
      · exact hy
      · cases hy
    rcases w with e | ⟨id', g', off', n', fin', cap', e, hw⟩
    · cases e
    · cases e
      cases cap with
      | none =>
        have hw : fin = off + xs.length := hw
        refine ⟨.l id g off k (off + k) none, .inr ⟨id, g, off, off + k, none, by rw [List.length_take, Nat.min_eq_left hk], by rw [List.length_take, Nat.min_eq_left hk]; exact Nat.le_refl _, h3, hrow k hk⟩, .inr ⟨_, _, _, _, _, _, rfl, rfl⟩, fun g0 N => hv_of fun q => ?_⟩
        have e1 : Nat.ble k xs.length = true := by rw [Nat.ble_eq]; exact hk
        have e2 : Nat.beq fin (Nat.add off (Nat.mul xs.length 1)) = true := by rw [hw]; show Nat.beq (off + xs.length) (off + xs.length * 1) = true; rw [Nat.mul_one]; exact Nat.beq_refl _
        unfold slHiV
        simp only [vL_l, vI_i, natK_cast, e0, ifK_true]
        show sliceN 1 id g off xs.length fin 0 k q = _
        unfold sliceN
        rw [e1, ifK_true, e2, ifK_true, fN_eq, fN_eq, fN_eq]
        show q (.l id g (off + 0 * 1) (k - 0) (off + k * 1) none) = _
        simp
      | some c =>
        have hw : xs.length ≤ c := hw
        have e1 : Nat.ble k c = true := by rw [Nat.ble_eq]; omega
        cases c with
        | zero =>
          have hx : xs.length = 0 := by omega
          have hk0 : k = 0 := by omega
          subst hk0
          refine ⟨.l id g off 0 fin (some 0), .inr ⟨id, g, off, fin, some 0, by simp, by simp; omega, h3, by simpa using hrow 0 (Nat.zero_le _)⟩, .inr ⟨_, _, _, _, _, _, rfl, Nat.le_refl _⟩, fun g0 N => hv_of fun q => ?_⟩
          unfold slHiV
          simp only [vL_l, vI_i, natK_cast, e0, ifK_true]
          rfl
        | succ c =>
          refine ⟨.l id g off k fin (some (c + 1)), .inr ⟨id, g, off, fin, some (c + 1), by rw [List.length_take, Nat.min_eq_left hk], by rw [List.length_take, Nat.min_eq_left hk]; omega, h3, hrow k hk⟩, .inr ⟨_, _, _, _, _, _, rfl, by show k ≤ c + 1; omega⟩, fun g0 N => hv_of fun q => ?_⟩
          unfold slHiV
          simp only [vL_l, vI_i, natK_cast, e0, ifK_true]
          show sliceC 1 id g off xs.length fin (c + 1) 0 k q = _
          rw [sliceC_mid (by omega) (by omega)]
          simp
/-! ### Matrices -/
/-- the i-th row of a matrix -/
noncomputable def rowOf (h : H) (v : V) (i : Nat) : V := (cell h (lid v) (lg v) (loff v + i)).getD .u
/-- a matrix that was there when the call began -/
structure MA (h0 : H) (v : V) (M : List (List Bool)) (g : H) : Prop where
  mx : Mx h0 v M
  st : Stay nowhere h0 g
section
variable {P : Program} {N : Nx} {h0 g h' : H} {v : V} {M : List (List Bool)} {i j : Nat}
theorem MA.grow (a : MA h0 v M g) (s : Stay nowhere g h') : MA h0 v M h' := ⟨a.mx, a.st.trans s⟩
theorem MA.mg (a : MA h0 v M g) : Mx g v M := a.mx.grow a.st
theorem Mx.rowOf (a : Mx h0 v M) (hi : i < M.length) : Bl h0 (rowOf h0 v i) (M.getD i []) := by
  obtain ⟨rows, r1, r2, r3⟩ := a
  have hr : rows[i]? = some rows[i] := by simp
  have : Go.Ev.rowOf h0 v i = rows[i] := by
    unfold Go.Ev.rowOf
    rcases r1 with ⟨rfl, e⟩ | ⟨id, g, off, fin, cap, rfl, h2, h3, h4⟩
    · subst e; simp at r2; omega
    · have := h4.2 i _ hr
      show (cell h0 id g (off + i)).getD .u = _
      rw [this]; rfl
  rw [this]
  exact r3 i _ hr
theorem MA.row (a : MA h0 v M g) (hi : i < M.length) : Bl g (rowOf h0 v i) (M.getD i []) := (a.mx.rowOf hi).grow a.st
theorem MA.ln (a : MA h0 v M g) (g' : H) : H1 P gLen v g' N = N.go P (.i .i64 (M.length : Int)) g' := by
  obtain ⟨rows, r1, r2, r3⟩ := a.mx
  rw [r1.ln, r2]
theorem MA.ix (a : MA h0 v M g) (g' : H) (hi : i < M.length) : IX P 1 v i g' N = N.go P (.p (lid v) (lg v) (loff v + i) (lfin v)) g' := by
  obtain ⟨rows, r1, r2, r3⟩ := a.mx
  exact r1.ix (by omega)
theorem MA.ld (a : MA h0 v M g) (hi : i < M.length) : L1 P (lid v) (lg v) (loff v + i) (lfin v) g N = N.go P (rowOf h0 v i) g := by
  obtain ⟨rows, r1, r2, r3⟩ := a.mx
  have hr : rows[i]? = some rows[i] := by simp
  refine hv_of fun k => ?_
  have e : Go.Ev.rowOf h0 v i = rows[i] := by
    unfold Go.Ev.rowOf
    rcases r1 with ⟨rfl, e⟩ | ⟨id, g, off, fin, cap, rfl, h2, h3, h4⟩
    · subst e; simp at r2; omega
    · have := h4.2 i _ hr
      show (cell h0 id g (off + i)).getD .u = _
      rw [this]; rfl
  rw [load_lst (r1.grow a.st) hr, e]
theorem MA.rln (a : MA h0 v M g) (g' : H) (hi : i < M.length) : H1 P gLen (rowOf h0 v i) g' N = N.go P (.i .i64 ((M.getD i []).length : Int)) g' := (a.mx.rowOf hi).ln
theorem MA.rix (a : MA h0 v M g) (sq : ∀ i, i < M.length → (M.getD i []).length = M.length) (g' : H) (hi : i < M.length) (hj : j < M.length) : IX P 1 (rowOf h0 v i) j g' N = N.go P (.p (lid (rowOf h0 v i)) (lg (rowOf h0 v i)) (loff (rowOf h0 v i) + j) (lfin (rowOf h0 v i))) g' := (a.mx.rowOf hi).ix (by rw [sq i hi]; exact hj)
theorem MA.rld (a : MA h0 v M g) (sq : ∀ i, i < M.length → (M.getD i []).length = M.length) (hi : i < M.length) (hj : j < M.length) : L1 P (lid (rowOf h0 v i)) (lg (rowOf h0 v i)) (loff (rowOf h0 v i) + j) (lfin (rowOf h0 v i)) g N = N.go P (.b ((M.getD i []).getD j false)) g := (a.row hi).ld (by rw [sq i hi]; exact hj)
end
theorem Row.ln {P : Program} {h : H} {N : Nx} {id : B} {g off fin size : Nat} {xs : List V} (r : Row h id g 0 xs) (hi : off + size ≤ xs.length) (h1 : 1 ≤ size) (hf : off + size ≤ fin) : LN P id g off fin size h N = N.go P (.a ((xs.drop off).take size)) h := hv_of fun k => by
  have hne : (xs.drop off).take size ≠ [] := by
    intro e
    have := congrArg List.length e
    rw [List.length_take, List.length_drop] at this
    simp at this; omega
  refine loadN_row (vs := (xs.drop off).take size) ⟨fun _ => r.1 (by intro e; subst e; simp at hi; omega), fun i y hy => ?_⟩ (by rw [List.length_take, List.length_drop]; omega) hne hf _
  rw [List.getElem?_take] at hy
  split at hy
  · rw [List.getElem?_drop] at hy
    have := r.2 (off + i) y hy
    rwa [Nat.zero_add] at this
  · cases hy
/-! ### Pointers compared; unsafe ways of strings.Builder -/
noncomputable def gPtr (ne : Bool) (x y : V) (k : V → Bool) : Bool := vPZ x (fun _ => vPZ y (fun _ => k (.b (!ne))) fun _ _ _ _ => k (.b ne)) (ptrK ne y k)
noncomputable def gSData (x : V) (k : V → Bool) : Bool := vL x (fun _ => k .p0) fun id g off len fin _ => ifK (Nat.ble 1 len) fun _ => k (.p id g off fin)
def PU (P : Program) (x : V) (h : H) (N : Nx) : Prop := HV P (fun k => vP x fun id g off fin => load1 h id g off fin fun _ => k (.p id g off fin)) h N
def UP (P : Program) (u size : Nat) (x : V) (h : H) (N : Nx) : Prop := HV P (fun k => vP x fun id g off fin => ifK (Nat.beq off 0) fun _ => ifK (Nat.ble size fin) fun _ => elK h id g u fun _ => k (.p id g off fin)) h N
section
variable {P : Program} {t : F} {h : H} {N : Nx} {x y : O} {ne : Bool} {id id' : B} {g off fin g' off' fin' : Nat} {u size : Nat}
theorem or_ptr : OR P (doPtr ne x y) t h N = H2 P (gPtr ne) (oV x t) (oV y t) h N := or_hv fun cf k => ev_ptr ..
theorem h2_ptr00 : H2 P (gPtr ne) .p0 .p0 h N = N.go P (.b (!ne)) h := hv_of fun k => rfl
theorem h2_ptr01 : H2 P (gPtr ne) .p0 (.p id g off fin) h N = N.go P (.b ne) h := hv_of fun k => rfl
theorem h2_ptr10 : H2 P (gPtr ne) (.p id g off fin) .p0 h N = N.go P (.b ne) h := hv_of fun k => by
  show ptrK ne .p0 k id g off fin = _
  exact ptrK_p0 ne k id g off fin
theorem h2_ptr11 : H2 P (gPtr ne) (.p id g off fin) (.p id g off fin') h N = N.go P (.b (!ne)) h := hv_of fun k => by
  show ptrK ne (.p id g off fin') k id g off fin = _
  rw [ptrK_same]; cases ne <;> rfl
theorem or_sdata : OR P (doSData x) t h N = H1 P gSData (oV x t) h N := or_hv fun cf k => ev_sdata ..
theorem or_p2u : OR P (doP2U x) t h N = PU P (oV x t) h N := or_hv fun cf k => ev_p2u ..
theorem or_u2p : OR P (doU2P u size x) t h N = UP P u size (oV x t) h N := or_hv fun cf k => ev_u2p ..
theorem OwnE.pu {xs : List V} {el : Nat} (o : OwnE h id el xs) (hi : off < xs.length) (hf : off < fin) : PU P (.p id 0 off fin) h N = N.go P (.p id 0 off fin) h := hv_of fun k => by
  show load1 h id 0 off fin (fun _ => k (.p id 0 off fin)) = _
  have := o.own.row.2 off (xs.getD off .u) (by simp [hi])
  rw [Nat.zero_add] at this
  rw [load1_cell this hf]
theorem OwnE.up {xs : List V} {el : Nat} (o : OwnE h id el xs) (hf : size ≤ fin) : UP P el size (.p id 0 0 fin) h N = N.go P (.p id 0 0 fin) h := hv_of fun k => by
  have e1 : Nat.ble size fin = true := by rw [Nat.ble_eq]; exact hf
  show ifK (Nat.beq 0 0) (fun _ => ifK (Nat.ble size fin) fun _ => elK h id 0 el fun _ => k (.p id 0 0 fin)) = _
  have e2 : Nat.beq 0 0 = true := rfl
  rw [e2, ifK_true, e1, ifK_true, elK_own o]
end
section
variable {P : Program} {h : H} {N : Nx} {id : B} {xs : List V} {j fin el : Nat} {x y : V}
theorem ST.ownE (o : OwnE h id el xs) (hc : cells x = [y]) (h1 : oneV y = true) (hj : j < fin) (hfit : j < 2 ^ 37) (k : ∀ h', OwnE h' id el (xs.set j y) → Stay (fun i => i = id) h h' → N.go P (.tu []) h') : ST P 1 (.p id 0 j fin) x h N := by
  obtain ⟨h', a1, a2, a3⟩ := store_ownE o hj hfit h1
  refine hm_of (v := .tu []) (h' := h') (fun k => ?_) (k h' a2 a3)
  show ifK (Nat.beq (cells x).length 1) (fun _ => store h id 0 j fin (cells x) fun h => k (.tu []) h) = _
  rw [hc]
  show store h id 0 j fin [y] (fun h => k (.tu []) h) = _
  rw [a1]
/-- append(v, text...) -/
theorem AS.buf {v : V} {a c : List UInt8} (hb : Buf h el 1 v (a.map bv)) (hf : B.val h.floor ≤ B.val h.next) (hl : a.length + c.length ≤ 1048576)
    (k : ∀ v' h', Buf h' el 1 v' ((a ++ c).map bv) → Stay (isOf v) h h' → (∀ i, isOf v' i → isOf v i ∨ B.val h.next ≤ B.val i) → Top h' v' → N.go P v' h') : AS P el v (sv c) h N := by
  obtain ⟨v', h', a1, a2, a3, a4, a5⟩ := append_top (vs := c.map bv) (n := c.length) hb hf (Nat.le_refl _) (by simp) (allOne_bv c) (by simpa using hl)
  refine hm_of (v := v') (h' := h') (fun k => ?_) (k v' h' (by rw [List.map_append]; exact a2) a3 a4 a5)
  show unpK c.length (pk c) [] (fun vs => append2 el 1 v c.length vs h k) = _
  rw [unpK_map _ _ _ _ rfl, List.append_nil, a1]
theorem buf_cells {v : V} (b : Buf h el 1 v xs) : cells v = [v] ∧ oneV v = true ∧ knownV v = true := by rcases b with ⟨rfl, _⟩ | ⟨_, _, _, _, rfl, _⟩ <;> exact ⟨rfl, rfl, rfl⟩
end
def US (P : Program) (e : Nat) (x y : V) (h : H) (N : Nx) : Prop := HM P (fun k => vI y fun kd n => ifK (kdEq kd .i64) fun _ => natK n fun n => vPZ x (fun _ => ifK (Nat.beq n 0) fun _ => k (.s 0 0) h) fun id g off fin => uStrK e n h k id g off fin) N
theorem US.of {P : Program} {e : Nat} {x y v : V} {h h' : H} {N : Nx} (hk : ∀ k : V → H → Bool, (vI y fun kd n => ifK (kdEq kd .i64) fun _ => natK n fun n => vPZ x (fun _ => ifK (Nat.beq n 0) fun _ => k (.s 0 0) h) fun id g off fin => uStrK e n h k id g off fin) = k v h') (k : N.go P v h') : US P e x y h N := hm_of hk k
theorem or_ustr {P : Program} {e : Nat} {x y : O} {t : F} {h : H} {N : Nx} : OR P (doUStr e x y) t h N = US P e (oV x t) (oV y t) h N := or_hm fun cf k => by simp only [doUStr, oE_eq]
end Go.Ev
