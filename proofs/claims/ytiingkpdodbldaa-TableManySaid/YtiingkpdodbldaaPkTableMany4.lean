/- Texts of ours, without what this claim does not use: We Wg EntM SealM SealN BkM JrEnt JrCell Base NCell NText NEnt1 NEnt2 NEnt3 NEnt4 NEnt5 NEnt6 NEntB BkN SvM TbM TbF TbP JrBkP JrBld NBld JrBk JrSeal NSeal NBk1 NBk2. No condition. -/
import Derived.Test.YtiingkpdodbldaaPkTableMany3
import Derived.Test.YtiingkpdodbldaaProg
import Derived.KernelRfl
import Derived.Test.YtiingkpdodbldaaChecked
set_option linter.all false
namespace Go.Ev
open Go
/-- a block of the call's own, made of a text's bytes or of cells -/
def Own1 (h : H) (id : B) (xs : List V) : Prop := ∃ blk, h.heap.get id = some blk ∧ blk.cur = 0 ∧ blk.min = 0 ∧ blk.fr ≤ 1 ∧ B.val h.floor ≤ B.val id ∧ B.val id < B.val h.next ∧ ∀ i y, xs[i]? = some y → blk.cells.getN i = some y
theorem Own1.row {h : H} {id : B} {xs : List V} (o : Own1 h id xs) : Row h id 0 0 xs := by
  obtain ⟨blk, h1, h2, h3, h4, h5, h6, h7⟩ := o
  refine ⟨fun _ => ⟨blk, h1, by omega⟩, fun i y hy => ?_⟩
  unfold Ev.cell cellB
  rw [h1]
  show (if blk.min ≤ 0 then blk.cells.getN (0 + i) else none) = _
  rw [if_pos (by omega), Nat.zero_add]
  exact h7 i y hy
section
variable {P : Program} {h : H} {N : Nx} {id : B} {xs : List V} {j fin el : Nat} {x y : V}
/-- []byte(text), to be written into -/
theorem SB.own {c : List UInt8} (hf : B.val h.floor ≤ B.val h.next) (hl : c.length ≤ 1048576)
    (k : ∀ h', Stay nowhere h h' → B.val h'.next = B.val h.next + 1 → Own1 h' h.next (c.map bv) → N.go P (.l h.next 0 0 c.length c.length (capF c.length)) h') : SB P el (sv c) h N := by
  obtain ⟨h', a1, a2, a3, a4, a5, cs, a6, a7⟩ := s2b_new el hf hl
  have := fun k => a1 (.c (sv c)) F.zero (fun _ _ _ _ => false) k rfl
  refine hm_of (v := .l h.next 0 0 c.length c.length (capF c.length)) (h' := h') (fun k => ?_) (k h' a2 a3 ⟨_, a6, rfl, rfl, by show 1 ≤ 1; omega, by rw [a2.floor]; exact hf, by omega, a7⟩)
  have e := this k
  simp only [doS2B, oE_eq] at e
  exact e
end
/-- string([]byte{..}) in a region that draws -/
theorem AL.strU {P : Program} {t : F} {h : H} {K : F → H → Prop} {l : List CO} {el n m : Nat} {cs : List V} {bs : List UInt8} {len fin : Nat} {cap : Option Nat} (hc : cs = bs.map bv) (hne : bs ≠ []) (e1 : len = bs.length) (e2 : fin = bs.length) (hl : bs.length ≤ 1048576) (hf : B.val h.floor ≤ B.val h.next)
    (k : ∀ h' u, Stay nowhere h h' → DO P l (put n (sv bs) (put m u t)) h' K) : AL P el cs (fun id => .l id 0 0 len fin cap) (reFloor h) (.u m (.mk .none (.some (slOf n)) false (.mk (doB2S (.t (slOf m)))) :: l) t h K) := by
  subst hc; subst e1; subst e2
  have hn : (reFloor h).next = h.next := by cases h; rfl
  refine AL.own (by rw [List.length_map]; omega) (by cases h; exact Nat.le_refl _) fun h1' s1 n1 o1 => ?_
  have hL := (o1.unfloor (h := h) (by rw [hn]; exact hf)).lst cap
  rw [List.length_map] at hL
  rw [go_u, do_u, or_b2s, oV_t, get_put', if_pos rfl, bs_re, hL.bs hne]
  exact k _ _ s1.unfloor
/-- the i-th row of a matrix -/
noncomputable def rowOf (h : H) (v : V) (i : Nat) : V := (cell h (lid v) (lg v) (loff v + i)).getD .u
/-- a matrix that was there when the call began -/
structure MA (h0 : H) (v : V) (M : List (List Bool)) (g : H) : Prop where
  mx : Mx h0 v M
  st : Stay nowhere h0 g
section
variable {P : Program} {N : Nx} {h0 g h' : H} {v : V} {M : List (List Bool)} {i j : Nat}
theorem MA.grow (a : MA h0 v M g) (s : Stay nowhere g h') : MA h0 v M h' := ⟨a.mx, a.st.trans s⟩
theorem Mx.rowOf (a : Mx h0 v M) (hi : i < M.length) : Bl h0 (rowOf h0 v i) (M.getD i []) := by
  obtain ⟨rows, r1, r2, r3⟩ := a
  have hr : rows[i]? = some rows[i] := by simp
  have : Go.Ev.rowOf h0 v i = rows[i] := by
    unfold Go.Ev.rowOf
    rcases r1 with ⟨rfl, e⟩ | ⟨id, g, off, fin, cap, rfl, h2, h3, h4⟩
    · subst e; simp at r2; omega
    · have := h4.2 i _ hr
      show (cell h0 id g (off + i)).getD .u = _
      rw [this]; rfl
  rw [this]
  exact r3 i _ hr
theorem MA.row (a : MA h0 v M g) (hi : i < M.length) : Bl g (rowOf h0 v i) (M.getD i []) := (a.mx.rowOf hi).grow a.st
theorem MA.ld (a : MA h0 v M g) (hi : i < M.length) : L1 P (lid v) (lg v) (loff v + i) (lfin v) g N = N.go P (rowOf h0 v i) g := by
  obtain ⟨rows, r1, r2, r3⟩ := a.mx
  have hr : rows[i]? = some rows[i] := by simp
  refine hv_of fun k => ?_
  have e : Go.Ev.rowOf h0 v i = rows[i] := by
    unfold Go.Ev.rowOf
    rcases r1 with ⟨rfl, e⟩ | ⟨id, g, off, fin, cap, rfl, h2, h3, h4⟩
    · subst e; simp at r2; omega
    · have := h4.2 i _ hr
      show (cell h0 id g (off + i)).getD .u = _
      rw [this]; rfl
  rw [load_lst (r1.grow a.st) hr, e]
end
theorem Row.ln {P : Program} {h : H} {N : Nx} {id : B} {g off fin size : Nat} {xs : List V} (r : Row h id g 0 xs) (hi : off + size ≤ xs.length) (h1 : 1 ≤ size) (hf : off + size ≤ fin) : LN P id g off fin size h N = N.go P (.a ((xs.drop off).take size)) h := hv_of fun k => by
  have hne : (xs.drop off).take size ≠ [] := by
    intro e
    have := congrArg List.length e
    rw [List.length_take, List.length_drop] at this
    simp at this; omega
  refine loadN_row (vs := (xs.drop off).take size) ⟨fun _ => r.1 (by intro e; subst e; simp at hi; omega), fun i y hy => ?_⟩ (by rw [List.length_take, List.length_drop]; omega) hne hf _
  rw [List.getElem?_take] at hy
  split at hy
  · rw [List.getElem?_drop] at hy
    have := r.2 (off + i) y hy
    rwa [Nat.zero_add] at this
  · cases hy
noncomputable def gPtr (ne : Bool) (x y : V) (k : V → Bool) : Bool := vPZ x (fun _ => vPZ y (fun _ => k (.b (!ne))) fun _ _ _ _ => k (.b ne)) (ptrK ne y k)
noncomputable def gSData (x : V) (k : V → Bool) : Bool := vL x (fun _ => k .p0) fun id g off len fin _ => ifK (Nat.ble 1 len) fun _ => k (.p id g off fin)
def PU (P : Program) (x : V) (h : H) (N : Nx) : Prop := HV P (fun k => vP x fun id g off fin => load1 h id g off fin fun _ => k (.p id g off fin)) h N
def UP (P : Program) (u size : Nat) (x : V) (h : H) (N : Nx) : Prop := HV P (fun k => vP x fun id g off fin => ifK (Nat.beq off 0) fun _ => ifK (Nat.ble size fin) fun _ => elK h id g u fun _ => k (.p id g off fin)) h N
section
variable {P : Program} {t : F} {h : H} {N : Nx} {x y : O} {ne : Bool} {id id' : B} {g off fin g' off' fin' : Nat} {u size : Nat}
theorem or_ptr : OR P (doPtr ne x y) t h N = H2 P (gPtr ne) (oV x t) (oV y t) h N := or_hv fun cf k => ev_ptr ..
theorem h2_ptr00 : H2 P (gPtr ne) .p0 .p0 h N = N.go P (.b (!ne)) h := hv_of fun k => rfl
theorem h2_ptr01 : H2 P (gPtr ne) .p0 (.p id g off fin) h N = N.go P (.b ne) h := hv_of fun k => rfl
theorem h2_ptr10 : H2 P (gPtr ne) (.p id g off fin) .p0 h N = N.go P (.b ne) h := hv_of fun k => by
  show ptrK ne .p0 k id g off fin = _
  exact ptrK_p0 ne k id g off fin
theorem h2_ptr11 : H2 P (gPtr ne) (.p id g off fin) (.p id g off fin') h N = N.go P (.b (!ne)) h := hv_of fun k => by
  show ptrK ne (.p id g off fin') k id g off fin = _
  rw [ptrK_same]; cases ne <;> rfl
theorem or_sdata : OR P (doSData x) t h N = H1 P gSData (oV x t) h N := or_hv fun cf k => ev_sdata ..
theorem or_p2u : OR P (doP2U x) t h N = PU P (oV x t) h N := or_hv fun cf k => ev_p2u ..
theorem or_u2p : OR P (doU2P u size x) t h N = UP P u size (oV x t) h N := or_hv fun cf k => ev_u2p ..
theorem OwnE.pu {xs : List V} {el : Nat} (o : OwnE h id el xs) (hi : off < xs.length) (hf : off < fin) : PU P (.p id 0 off fin) h N = N.go P (.p id 0 off fin) h := hv_of fun k => by
  show load1 h id 0 off fin (fun _ => k (.p id 0 off fin)) = _
  have := o.own.row.2 off (xs.getD off .u) (by simp [hi])
  rw [Nat.zero_add] at this
  rw [load1_cell this hf]
theorem OwnE.up {xs : List V} {el : Nat} (o : OwnE h id el xs) (hf : size ≤ fin) : UP P el size (.p id 0 0 fin) h N = N.go P (.p id 0 0 fin) h := hv_of fun k => by
  have e1 : Nat.ble size fin = true := by rw [Nat.ble_eq]; exact hf
  show ifK (Nat.beq 0 0) (fun _ => ifK (Nat.ble size fin) fun _ => elK h id 0 el fun _ => k (.p id 0 0 fin)) = _
  have e2 : Nat.beq 0 0 = true := rfl
  rw [e2, ifK_true, e1, ifK_true, elK_own o]
end
section
variable {P : Program} {h : H} {N : Nx} {id : B} {xs : List V} {j fin el : Nat} {x y : V}
theorem ST.ownE (o : OwnE h id el xs) (hc : cells x = [y]) (h1 : oneV y = true) (hj : j < fin) (hfit : j < 2 ^ 37) (k : ∀ h', OwnE h' id el (xs.set j y) → Stay (fun i => i = id) h h' → N.go P (.tu []) h') : ST P 1 (.p id 0 j fin) x h N := by
  obtain ⟨h', a1, a2, a3⟩ := store_ownE o hj hfit h1
  refine hm_of (v := .tu []) (h' := h') (fun k => ?_) (k h' a2 a3)
  show ifK (Nat.beq (cells x).length 1) (fun _ => store h id 0 j fin (cells x) fun h => k (.tu []) h) = _
  rw [hc]
  show store h id 0 j fin [y] (fun h => k (.tu []) h) = _
  rw [a1]
/-- append(v, text...) -/
theorem AS.buf {v : V} {a c : List UInt8} (hb : Buf h el 1 v (a.map bv)) (hf : B.val h.floor ≤ B.val h.next) (hl : a.length + c.length ≤ 1048576)
    (k : ∀ v' h', Buf h' el 1 v' ((a ++ c).map bv) → Stay (isOf v) h h' → (∀ i, isOf v' i → isOf v i ∨ B.val h.next ≤ B.val i) → Top h' v' → N.go P v' h') : AS P el v (sv c) h N := by
  obtain ⟨v', h', a1, a2, a3, a4, a5⟩ := append_top (vs := c.map bv) (n := c.length) hb hf (Nat.le_refl _) (by simp) (allOne_bv c) (by simpa using hl)
  refine hm_of (v := v') (h' := h') (fun k => ?_) (k v' h' (by rw [List.map_append]; exact a2) a3 a4 a5)
  show unpK c.length (pk c) [] (fun vs => append2 el 1 v c.length vs h k) = _
  rw [unpK_map _ _ _ _ rfl, List.append_nil, a1]
theorem buf_cells {v : V} (b : Buf h el 1 v xs) : cells v = [v] ∧ oneV v = true ∧ knownV v = true := by rcases b with ⟨rfl, _⟩ | ⟨_, _, _, _, rfl, _⟩ <;> exact ⟨rfl, rfl, rfl⟩
end
def US (P : Program) (e : Nat) (x y : V) (h : H) (N : Nx) : Prop := HM P (fun k => vI y fun kd n => ifK (kdEq kd .i64) fun _ => natK n fun n => vPZ x (fun _ => ifK (Nat.beq n 0) fun _ => k (.s 0 0) h) fun id g off fin => uStrK e n h k id g off fin) N
theorem US.of {P : Program} {e : Nat} {x y v : V} {h h' : H} {N : Nx} (hk : ∀ k : V → H → Bool, (vI y fun kd n => ifK (kdEq kd .i64) fun _ => natK n fun n => vPZ x (fun _ => ifK (Nat.beq n 0) fun _ => k (.s 0 0) h) fun id g off fin => uStrK e n h k id g off fin) = k v h') (k : N.go P v h') : US P e x y h N := hm_of hk k
theorem or_ustr {P : Program} {e : Nat} {x y : O} {t : F} {h : H} {N : Nx} : OR P (doUStr e x y) t h N = US P e (oV x t) (oV y t) h N := or_hm fun cf k => by simp only [doUStr, oE_eq]
end Go.Ev

set_option linter.all false
namespace Go.Ev
open Go
section
variable {h : H}
/-- all cells of a block at once -/
theorem ST.ownAll {P : Program} {N : Nx} {id : B} {xs vs : List V} {x : V} {size fin : Nat} (o : Own h id xs) (hc : cells x = vs) (hs : vs.length = size) (h1 : allOne vs = true) (hj : vs.length ≤ fin) (hfit : vs.length < 2 ^ 37)
    (k : ∀ h', Own h' id vs → Stay (fun i => i = id) h h' → N.go P (.tu []) h') : ST P size (.p id 0 0 fin) x h N := by
  obtain ⟨blk, a1, a2, a3, a4, a5, a6, a7⟩ := o
  obtain ⟨next, floor, heap⟩ := h
  obtain ⟨cur, min, sz, cs, bel, fr⟩ := blk
  simp only at a2 a3 a4 a7
  subst a2; subst a3; subst a4
  obtain ⟨tr, t1, t2, t3⟩ := setList_fine vs 0 cs (by omega)
  obtain ⟨hp, s1, s2, s3⟩ := setK_ok id (⟨0, 0, sz, tr, bel, 0⟩ : Blk) heap
  have e1 : B.geB floor id = true := by cases floor <;> first | rfl | (show Nat.ble _ _ = true; rw [Nat.ble_eq]; exact a5)
  have e2 : Nat.ble (Nat.add 0 vs.length) fin = true := by rw [Nat.ble_eq]; show 0 + vs.length ≤ fin; omega
  have e4 : frOk 0 0 = true := rfl
  have e5 : Nat.beq 0 0 = true := rfl
  have e6 : Nat.ble 0 0 = true := rfl
  have e7 : Nat.beq vs.length size = true := by rw [hs]; simp
  have a1' : heap.get id = some ⟨0, 0, sz, cs, bel, 0⟩ := a1
  refine hm_of (v := .tu []) (h' := ⟨next, floor, hp⟩) (fun q => ?_) (k _ ⟨_, s2, rfl, rfl, rfl, a5, a6, fun i z hz => by have := t2 i z hz; rwa [Nat.zero_add] at this⟩ ⟨rfl, Nat.le_refl _, fun i _ hi => s3 i hi⟩)
  show ifK (Nat.beq (cells x).length size) (fun _ => store ⟨next, floor, heap⟩ id 0 0 fin (cells x) fun h => q (.tu []) h) = _
  rw [hc, e7, ifK_true]
  simp only [store, hK_mk, a1', optK_some, blkK_mk, e5, e6, e1, e2, h1, e4, ifK_true]
  rw [t1, s1]
end
theorem ST.all {P : Program} {h : H} {N : Nx} {id : B} {xs vs : List V} {size fin : Nat} (o : Own h id xs) (hs : vs.length = size) (h1 : allOne vs = true) (hj : vs.length ≤ fin) (hfit : vs.length < 2 ^ 37)
    (k : ∀ h', Own h' id vs → Stay (fun i => i = id) h h' → N.go P (.tu []) h') : ST P size (.p id 0 0 fin) (.a vs) h N := ST.ownAll o rfl hs h1 hj hfit k
theorem Own.ra4 {h : H} {Q : V → H → Prop} {id : B} {a b c d : V} {us : List V} (o : Own h id [a, b, c, d]) : RA Q 4 (.p id 0 0 4) us h = Q (one (.a [a, b, c, d] :: us)) h := o.ra rfl (by omega) (by omega)
theorem re_fl (h : H) : B.val (reFloor h).floor ≤ B.val (reFloor h).next := by cases h; exact Nat.le_refl _
/-- a call in a region that draws -/
theorem CL.stayU {P : Program} {f : FuncId} {vs : List V} {h : H} {e : V} {m : Nat} {l : List CO} {t : F} {K : F → H → Prop} (a : FnOk P f vs (reFloor h) fun y h' => y = e ∧ Stay nowhere (reFloor h) h')
    (k : ∀ h', Stay nowhere h h' → DO P l (put m e t) h' K) : CL P f vs (reFloor h) (.u m l t h K) := ⟨_, a, fun v h' hq => by rw [hq.1, go_u]; exact k _ hq.2.unfloor⟩
/-- a row of structs of n cells each -/
def Ss {α : Type} (n : Nat) (c : α → List V) (h : H) (v : V) (L : List α) : Prop :=
  (v = .l0 ∧ L = []) ∨ ∃ id g off fin cap, v = .l id g off L.length fin cap ∧ off + L.length * n ≤ fin ∧ B.val id < B.val h.next ∧ Row h id g off (L.flatMap c)
section
variable {α : Type} [Inhabited α] {n : Nat} {c : α → List V}
theorem fm_len (hc : ∀ e, (c e).length = n) : ∀ (L : List α), (L.flatMap c).length = L.length * n
  | [] => by simp
  | a :: L => by rw [List.flatMap_cons, List.length_append, hc, fm_len hc L, List.length_cons, Nat.add_mul]; omega
theorem fm_at (hc : ∀ e, (c e).length = n) : ∀ {L : List α} {i : Nat}, i < L.length → ((L.flatMap c).drop (i * n)).take n = c (L.getD i default)
  | [], i, h => by simp at h
  | a :: L, 0, h => by
    rw [List.flatMap_cons, Nat.zero_mul, List.drop_zero, List.take_append_of_le_length (by rw [hc]; exact Nat.le_refl _), List.take_of_length_le (by rw [hc]; exact Nat.le_refl _)]; rfl
  | a :: L, i + 1, h => by
    have e : (i + 1) * n = (c a).length + i * n := by rw [hc, Nat.add_mul]; omega
    rw [List.flatMap_cons, e, ← List.drop_drop, List.drop_left, fm_at hc (by simpa using h)]
    simp [List.getD]
theorem fm_get (hc : ∀ e, (c e).length = n) {L : List α} {i d : Nat} (hi : i < L.length) (hd : d < n) : (L.flatMap c)[i * n + d]? = some ((c (L.getD i default)).getD d .u) := by
  have e : (((L.flatMap c).drop (i * n)).take n)[d]? = (c (L.getD i default))[d]? := by rw [fm_at hc hi]
  rw [List.getElem?_take, if_pos hd, List.getElem?_drop] at e
  rw [e]
  have : d < (c (L.getD i default)).length := by rw [hc]; exact hd
  have e3 : ∀ (x : List V), d < x.length → x[d]? = some (x.getD d .u) := fun x hx => by simp [List.getD, hx]
  exact e3 _ this
theorem fm_take (hc : ∀ e, (c e).length = n) : ∀ (L : List α) (k : Nat), (L.take k).flatMap c = (L.flatMap c).take (k * n)
  | [], k => by simp
  | a :: L, 0 => by simp
  | a :: L, k + 1 => by
    have e : (k + 1) * n = (c a).length + k * n := by rw [hc, Nat.add_mul]; omega
    have e2 : ((c a) ++ L.flatMap c).take ((c a).length + k * n) = c a ++ (L.flatMap c).take (k * n) := by
      rw [List.take_append, Nat.add_sub_cancel_left, List.take_of_length_le (Nat.le_add_right _ _)]
    rw [List.take_succ_cons, List.flatMap_cons, List.flatMap_cons, fm_take hc L k, e, e2]
theorem fm_drop (hc : ∀ e, (c e).length = n) : ∀ (L : List α) (k : Nat), (L.drop k).flatMap c = (L.flatMap c).drop (k * n)
  | [], k => by simp
  | a :: L, 0 => by simp
  | a :: L, k + 1 => by
    rw [List.drop_succ_cons, List.flatMap_cons, fm_drop hc L k, show (k + 1) * n = (c a).length + k * n by rw [hc, Nat.add_mul]; omega, ← List.drop_drop, List.drop_left]
variable {P : Program} {h h' g' : H} {N : Nx} {v : V} {L : List α} {i d : Nat}
theorem Ss.ln (a : Ss n c h v L) : H1 P gLen v g' N = N.go P (.i .i64 (L.length : Int)) g' := by
  rcases a with ⟨rfl, rfl⟩ | ⟨id, g, off, fin, cap, rfl, _⟩
  · exact gLen_l0
  · exact gLen_l
theorem Ss.ix (a : Ss n c h v L) (hi : i < L.length) : IX P n v i g' N = N.go P (.p (lid v) (lg v) (loff v + i * n) (lfin v)) g' := by
  rcases a with ⟨rfl, rfl⟩ | ⟨id, g, off, fin, cap, rfl, _⟩
  · simp at hi
  · exact ix_l hi
theorem Ss.ld (a : Ss n c h v L) (hc : ∀ e, (c e).length = n) (hi : i < L.length) (hd : d < n) : L1 P (lid v) (lg v) (loff v + i * n + d) (lfin v) h N = N.go P ((c (L.getD i default)).getD d .u) h := by
  rcases a with ⟨rfl, rfl⟩ | ⟨id, g, off, fin, cap, rfl, hf, hl, r⟩
  · simp at hi
  · refine hv_of fun k => ?_
    have := r.2 (i * n + d) _ (fm_get hc hi hd)
    rw [← Nat.add_assoc] at this
    have h1 : (i + 1) * n ≤ L.length * n := Nat.mul_le_mul_right n hi
    rw [Nat.add_mul] at h1
    exact load1_cell this (by show off + i * n + d < fin; omega) k
theorem Ss.ldA (a : Ss n c h v L) (hc : ∀ e, (c e).length = n) (hn : 1 ≤ n) (hi : i < L.length) : LN P (lid v) (lg v) (loff v + i * n) (lfin v) n h N = N.go P (.a (c (L.getD i default))) h := by
  rcases a with ⟨rfl, rfl⟩ | ⟨id, g, off, fin, cap, rfl, hf, hl, r⟩
  · simp at hi
  · refine hv_of fun k => ?_
    have h1 : (i + 1) * n ≤ L.length * n := Nat.mul_le_mul_right n hi
    rw [Nat.add_mul] at h1
    have hlen := hc (L.getD i default)
    refine loadN_row (vs := c (L.getD i default)) ⟨fun _ => r.1 ?_, fun j y hy => ?_⟩ hlen (by intro e; rw [e] at hlen; simp at hlen; omega) (by show off + i * n + n ≤ fin; omega) fun vs => k (.a vs)
    · intro e
      have h2 := fm_len hc L
      rw [e] at h2
      have h3 : L.length * n = 0 := h2.symm
      omega
    · have hj : j < n := by rw [← hlen]; exact (List.getElem?_eq_some_iff.1 hy).1
      have e := fm_get hc hi hj
      rw [List.getD, hy] at e
      have := r.2 (i * n + j) _ e
      rw [← Nat.add_assoc] at this
      exact this
theorem Ss.grow (a : Ss n c h v L) (s : Stay nowhere h h') : Ss n c h' v L := by
  rcases a with ⟨rfl, rfl⟩ | ⟨id, g, off, fin, cap, rfl, hf, hl, r⟩
  · exact .inl ⟨rfl, rfl⟩
  · exact .inr ⟨id, g, off, fin, cap, rfl, hf, Nat.lt_of_lt_of_le hl s.next, r.grow s hl⟩
theorem Ss.stay {p : B → Prop} (a : Ss n c h v L) (s : Stay p h h') (hp : ∀ id, isOf v id → ¬ p id) : Ss n c h' v L := by
  rcases a with ⟨rfl, rfl⟩ | ⟨id, g, off, fin, cap, rfl, hf, hl, r⟩
  · exact .inl ⟨rfl, rfl⟩
  · exact .inr ⟨id, g, off, fin, cap, rfl, hf, Nat.lt_of_lt_of_le hl s.next, r.stay s hl (hp id ⟨_, _, _, _, _, rfl⟩)⟩
theorem Ss.nil : Ss n c h .l0 ([] : List α) := .inl ⟨rfl, rfl⟩
/-- of a literal -/
theorem Ss.lit {id : B} {xs : List V} {cap : Option Nat} {len fin : Nat} (o : Own h id xs) (e : xs = L.flatMap c) (hc : ∀ e, (c e).length = n) (hl : len = L.length) (hf : L.length * n ≤ fin) : Ss n c h (.l id 0 0 len fin cap) L := by
  subst hl; subst e
  have r := o.row
  obtain ⟨blk, h1, h2, h3, h4, h5, h6, h7⟩ := o
  exact .inr ⟨id, 0, 0, fin, cap, rfl, by omega, h6, r⟩
/-- of a row that grew -/
theorem Ss.buf {el : Nat} {xs : List V} (b : Buf h el n v xs) (e : xs = L.flatMap c) (hc : ∀ e, (c e).length = n) (hn : 1 ≤ n) : Ss n c h v L := by
  subst e
  rcases b with ⟨rfl, he⟩ | ⟨id, g, m, blk, rfl, h1, h2, h3, h4, h5, h6, h7, h8, h9, h10⟩
  · refine .inl ⟨rfl, ?_⟩
    cases L with
    | nil => rfl
    | cons a L =>
      have := fm_len hc (a :: L)
      rw [he] at this
      have h3 : (L.length + 1) * n = 0 := this.symm
      rw [Nat.add_mul] at h3; omega
  · have hm : m = L.length := by
      rw [fm_len hc] at h2
      exact (Nat.eq_of_mul_eq_mul_right (by omega) h2).symm
    subst hm
    refine .inr ⟨id, g, 0, (L.flatMap c).length, none, rfl, by rw [fm_len hc]; omega, h4, fun _ => ⟨blk, h5, h6.1⟩, fun i y hy => ?_⟩
    unfold Ev.cell cellB
    rw [h5]
    show (if blk.min ≤ g then blk.cells.getN (0 + i) else none) = _
    rw [if_pos h6.1, Nat.zero_add]
    exact h10 i y hy
/-- a slice whose end is where it should be -/
def SwN (n : Nat) (v : V) : Prop := v = .l0 ∨ ∃ id g off m fin cap, v = .l id g off m fin cap ∧ match cap with
  | some c => m ≤ c ∧ (18446744073709551616 ≤ c → m = 0)
  | none => fin = off + m * n
theorem swn_capS {n off k L : Nat} : match capS k L with
  | some c => k ≤ c ∧ (18446744073709551616 ≤ c → k = 0)
  | none => off + k * n = off + k * n := by
  cases k with
  | zero => (cases L with | zero => exact rfl | succ L => exact ⟨Nat.zero_le _, fun _ => rfl⟩)
  | succ k => exact rfl
theorem row_hi {id : B} {g off k : Nat} (hc : ∀ e, (c e).length = n) (r : Row h id g off (L.flatMap c)) : Row h id g off ((L.take k).flatMap c) := by
  rw [fm_take hc]
  refine ⟨fun hne => r.1 fun e => hne (by rw [e]; simp), fun i y hy => r.2 i y ?_⟩
  rw [List.getElem?_take] at hy
  split at hy
  · exact hy
  · cases hy
theorem row_lo {id : B} {g off k : Nat} (hc : ∀ e, (c e).length = n) (r : Row h id g off (L.flatMap c)) : Row h id g (off + k * n) ((L.drop k).flatMap c) := by
  rw [fm_drop hc]
  refine ⟨fun hne => r.1 fun e => hne (by rw [e]; simp), fun i y hy => ?_⟩
  rw [List.getElem?_drop] at hy
  have := r.2 _ y hy
  rwa [← Nat.add_assoc] at this
theorem Ss.hi {kd : IntKind} {k : Nat} (a : Ss n c h v L) (hc : ∀ e, (c e).length = n) (w : SwN n v) (hk : k ≤ L.length) : ∃ u, Ss n c h u (L.take k) ∧ SwN n u ∧ ∀ (g : H) (N : Nx), H2 P (slHiV n) v (.i kd (k : Int)) g N = N.go P u g := by
  have e0 : Nat.ble 0 k = true := by rw [Nat.ble_eq]; omega
  have hkn : k * n ≤ L.length * n := Nat.mul_le_mul_right n hk
  have htk : (L.take k).length = k := by rw [List.length_take]; omega
  rcases a with ⟨rfl, rfl⟩ | ⟨id, g, off, fin, cap, rfl, h2, h3, r⟩
  · have : k = 0 := by simpa using hk
    subst this
    exact ⟨.l0, .inl ⟨rfl, by simp⟩, .inl rfl, fun g N => hv_of fun k => rfl⟩
  rcases w with e | ⟨id', g', off', n', fin', cap', e, hw⟩
  · cases e
  cases e
  cases cap with
  | none =>
    have hw : fin = off + L.length * n := hw
    refine ⟨.l id g off k (off + k * n) (capS k L.length), .inr ⟨id, g, off, off + k * n, capS k L.length, by rw [htk], by rw [htk]; exact Nat.le_refl _, h3, row_hi hc r⟩, .inr ⟨_, _, _, _, _, _, rfl, swn_capS⟩, fun g0 N => hv_of fun q => ?_⟩
    have e1 : Nat.ble k L.length = true := by rw [Nat.ble_eq]; exact hk
    have e2 : Nat.beq fin (Nat.add off (Nat.mul L.length n)) = true := by rw [hw]; exact Nat.beq_refl _
    unfold slHiV
    simp only [vL_l, vI_i, natK_cast, e0, ifK_true]
    show sliceN n id g off L.length fin 0 k q = _
    unfold sliceN
    rw [e1, ifK_true, e2, ifK_true, fN_eq, fN_eq, fN_eq]
    show q (.l id g (off + 0 * n) (k - 0) (off + k * n) (capS k L.length)) = _
    simp
  | some cc =>
    have hw2 : 18446744073709551616 ≤ cc → L.length = 0 := hw.2
    have hw : L.length ≤ cc := hw.1
    have e1 : Nat.ble k cc = true := by rw [Nat.ble_eq]; omega
    cases hfc : flagB cc with
    | true =>
      have hcc := flagB_t hfc
      have hx := hw2 hcc
      have hk0 : k = 0 := by omega
      subst hk0
      refine ⟨.l id g off 0 off (some cc), .inr ⟨id, g, off, off, some cc, by simp, by simp, h3, row_hi hc r⟩, .inr ⟨_, _, _, _, _, _, rfl, Nat.zero_le _, fun _ => rfl⟩, fun g0 N => hv_of fun q => ?_⟩
      unfold slHiV
      simp only [vL_l, vI_i, natK_cast, e0, ifK_true]
      show boolK (flagB cc) (fun _ => ifK (Nat.beq 0 0) fun _ => q (.l id g off 0 off (some cc))) _ = _
      rw [hfc]; rfl
    | false =>
    have hcM := flagB_f hfc
    cases cc with
    | zero =>
      have hx : L.length = 0 := by omega
      have hk0 : k = 0 := by omega
      subst hk0
      refine ⟨.l id g off 0 fin (some 0), .inr ⟨id, g, off, fin, some 0, by simp, by simp; omega, h3, row_hi hc r⟩, .inr ⟨_, _, _, _, _, _, rfl, Nat.le_refl _, fun _ => rfl⟩, fun g0 N => hv_of fun q => ?_⟩
      unfold slHiV
      simp only [vL_l, vI_i, natK_cast, e0, ifK_true]
      rfl
    | succ cc =>
      refine ⟨.l id g off k fin (some (cc + 1)), .inr ⟨id, g, off, fin, some (cc + 1), by rw [htk], by rw [htk]; omega, h3, row_hi hc r⟩, .inr ⟨_, _, _, _, _, _, rfl, by show k ≤ cc + 1; omega, fun h => absurd hcM (Nat.not_lt.2 h)⟩, fun g0 N => hv_of fun q => ?_⟩
      unfold slHiV
      simp only [vL_l, vI_i, natK_cast, e0, ifK_true]
      show boolK (flagB (cc + 1)) _ (fun _ => sliceC n id g off L.length fin (cc + 1) 0 k fun v => q v) = _
      rw [hfc, boolK_false, sliceC_mid hcM (by omega) (by omega)]
      simp
theorem Ss.lo {kd : IntKind} {k : Nat} (a : Ss n c h v L) (hc : ∀ e, (c e).length = n) (w : SwN n v) (hk : k ≤ L.length) : ∃ u, Ss n c h u (L.drop k) ∧ SwN n u ∧ ∀ (g : H) (N : Nx), H2 P (slLoV n) v (.i kd (k : Int)) g N = N.go P u g := by
  have e0 : Nat.ble k L.length = true := by rw [Nat.ble_eq]; omega
  have hkn : k * n + (L.length - k) * n = L.length * n := by rw [← Nat.add_mul]; congr 1; omega
  have htk : (L.drop k).length = L.length - k := List.length_drop
  rcases a with ⟨rfl, rfl⟩ | ⟨id, g, off, fin, cap, rfl, h2, h3, r⟩
  · have : k = 0 := by simpa using hk
    subst this
    exact ⟨.l0, .inl ⟨rfl, by simp⟩, .inl rfl, fun g N => hv_of fun k => rfl⟩
  rcases w with e | ⟨id', g', off', n', fin', cap', e, hw⟩
  · cases e
  cases e
  cases cap with
  | none =>
    have hw : fin = off + L.length * n := hw
    refine ⟨.l id g (off + k * n) (L.length - k) (off + L.length * n) none, .inr ⟨id, g, off + k * n, off + L.length * n, none, by rw [htk], by rw [htk]; omega, h3, row_lo hc r⟩, .inr ⟨_, _, _, _, _, _, rfl, by show off + L.length * n = off + k * n + (L.length - k) * n; omega⟩, fun g0 N => hv_of fun q => ?_⟩
    have e1 : Nat.ble L.length L.length = true := by rw [Nat.ble_eq]; exact Nat.le_refl _
    have e2 : Nat.beq fin (Nat.add off (Nat.mul L.length n)) = true := by rw [hw]; exact Nat.beq_refl _
    unfold slLoV
    simp only [vL_l, vI_i, natK_cast, e0, ifK_true]
    show sliceN n id g off L.length fin k L.length q = _
    unfold sliceN
    rw [e1, ifK_true, e2, ifK_true, fN_eq, fN_eq, fN_eq, capS_self]
    rfl
  | some cc =>
    have hw2 : 18446744073709551616 ≤ cc → L.length = 0 := hw.2
    have hw : L.length ≤ cc := hw.1
    have e1 : Nat.ble L.length cc = true := by rw [Nat.ble_eq]; omega
    cases hfc : flagB cc with
    | true =>
      have hcc := flagB_t hfc
      have hx := hw2 hcc
      have hk0 : k = 0 := by omega
      subst hk0
      refine ⟨.l id g off 0 off (some cc), .inr ⟨id, g, off, off, some cc, by rw [htk, hx], by rw [htk, hx]; simp, h3, ?_⟩, .inr ⟨_, _, _, _, _, _, rfl, Nat.zero_le _, fun _ => rfl⟩, fun g0 N => hv_of fun q => ?_⟩
      · rw [List.drop_eq_nil_of_le (by omega)]
        exact ⟨fun hne => absurd rfl hne, fun i v hv => by simp at hv⟩
      · unfold slLoV
        simp only [vL_l, vI_i, natK_cast, e0, ifK_true]
        show boolK (flagB cc) (fun _ => ifK (Nat.beq L.length 0) fun _ => q (.l id g off 0 off (some cc))) _ = _
        rw [hfc, hx]; rfl
    | false =>
    have hcM := flagB_f hfc
    have eM : Nat.ble (Nat.succ cc) 18446744073709551616 = true := by rw [Nat.ble_eq]; exact hcM
    by_cases hkc : k = cc
    · have hx : L.length = k := by omega
      refine ⟨.l id g off 0 fin (some 0), .inr ⟨id, g, off, fin, some 0, by rw [htk, hx]; simp, by rw [htk, hx]; simp; omega, h3, ?_⟩, .inr ⟨_, _, _, _, _, _, rfl, Nat.le_refl _, fun _ => rfl⟩, fun g0 N => hv_of fun q => ?_⟩
      · rw [List.drop_eq_nil_of_le (by omega)]
        exact ⟨fun hne => absurd rfl hne, fun i v hv => by simp at hv⟩
      · unfold slLoV
        simp only [vL_l, vI_i, natK_cast, e0, ifK_true]
        show boolK (flagB cc) _ (fun _ => sliceC n id g off L.length fin cc k L.length fun v => q v) = _
        rw [hfc, boolK_false]
        unfold sliceC
        rw [eM, ifK_true]
        have e2 : Nat.beq k cc = true := by rw [hkc]; exact Nat.beq_refl _
        rw [e1, ifK_true, e2]; rfl
    · refine ⟨.l id g (off + k * n) (L.length - k) fin (some (cc - k)), .inr ⟨id, g, off + k * n, fin, some (cc - k), by rw [htk], by rw [htk]; omega, h3, row_lo hc r⟩, .inr ⟨_, _, _, _, _, _, rfl, by show L.length - k ≤ cc - k; omega, fun h => absurd hcM (by omega)⟩, fun g0 N => hv_of fun q => ?_⟩
      unfold slLoV
      simp only [vL_l, vI_i, natK_cast, e0, ifK_true]
      show boolK (flagB cc) _ (fun _ => sliceC n id g off L.length fin cc k L.length fun v => q v) = _
      rw [hfc, boolK_false, sliceC_mid hcM (by omega) (by omega)]
/-- the cells that are appended -/
theorem new_ss (a : Ss n c h v L) (hc : ∀ e, (c e).length = n) (hn : 1 ≤ n) (k : Nat → List V → Bool) : newCells n v h k = k L.length (L.flatMap c) := by
  rcases a with ⟨rfl, rfl⟩ | ⟨id, g, off, fin, cap, rfl, hf, hl, r⟩
  · rfl
  · have hlen := fm_len hc L
    cases hm : L.length with
    | zero =>
      have : L = [] := List.eq_nil_of_length_eq_zero hm
      subst this; rfl
    | succ m =>
      rw [hm] at hlen hf
      show loadN h id g off fin (Nat.mul (m + 1) n) (fun vs => k (m + 1) vs) = _
      have hne : L.flatMap c ≠ [] := by
        intro e; rw [e] at hlen
        have h3 : (m + 1) * n = 0 := hlen.symm
        rw [Nat.add_mul] at h3; omega
      rw [show Nat.mul (m + 1) n = (L.flatMap c).length by rw [hlen]; rfl, loadN_row r rfl hne (by rw [hlen]; omega)]
/-- append([]T{e}, l...) -/
theorem AP.lit {id : B} {cs : List V} {el : Nat} (o : Own h id cs) (hcs : cs.length = n) (hn : 1 ≤ n) (hc : ∀ e, (c e).length = n) (a : Ss n c h v L) (hf : B.val h.floor ≤ B.val h.next) (hb : (1 + L.length) * n ≤ 1048576)
    (k0 : L = [] → N.go P (.l id 0 0 1 n (some 1)) h)
    (k1 : ∀ v' h', L ≠ [] → Buf h' el n v' (cs ++ L.flatMap c) → Top h' v' → Stay nowhere h h' → (∀ i, isOf v' i → B.val h.next ≤ B.val i) → N.go P v' h') : AP P el n (.l id 0 0 1 n (some 1)) v h N := by
  have hlen := fm_len hc L
  cases hm : L.length with
  | zero =>
    have : L = [] := List.eq_nil_of_length_eq_zero hm
    subst this
    refine hm_of (v := .l id 0 0 1 n (some 1)) (h' := h) (fun k => ?_) (k0 rfl)
    rw [new_ss a hc hn]; rfl
  | succ m =>
    have hne : L ≠ [] := by intro e; rw [e] at hm; simp at hm
    have hb1 : 1 + L.length ≤ 1048576 := by
      have := Nat.mul_le_mul_left (1 + L.length) hn
      omega
    have hcn : (1 + L.length) * n = n + L.length * n := by rw [Nat.add_mul]; omega
    obtain ⟨h', a1, a2, a3, blk, b1, b2, b3, b4, b5, b6, b7⟩ := alloc_new el (cs ++ L.flatMap c) h (by rw [List.length_append]; omega)
    refine hm_of (v := .l h.next 0 0 (1 + L.length) ((1 + L.length) * n) none) (h' := h') (fun k => ?_) (k1 _ h' hne ?_ ?_ a2 ?_)
    · rw [new_ss a hc hn]
      show boolK (Nat.ble (Nat.add 1 L.length) 1) (fun _ => appIn id 0 0 1 n 1 n L.length (L.flatMap c) h k) (fun _ => appOut el id 0 0 1 n n L.length (L.flatMap c) h k) = _
      have e1 : Nat.ble (Nat.add 1 L.length) 1 = false := by
        cases hx : Nat.ble (Nat.add 1 L.length) 1 with
        | false => rfl
        | true => have := Nat.le_of_ble_eq_true hx; have h2 : 1 + L.length ≤ 1 := this; omega
      rw [e1]
      show appOut el id 0 0 1 n n L.length (L.flatMap c) h k = _
      unfold appOut
      have e2 : Nat.ble (Nat.add 1 L.length) 1048576 = true := by rw [Nat.ble_eq]; exact hb1
      rw [e2, ifK_true, show Nat.mul 1 n = cs.length by rw [hcs]; show 1 * n = n; omega, loadZ_pos (by omega), loadN_row o.row rfl (by intro e; rw [e] at hcs; simp at hcs; omega) (by omega), app_eq, a1, fN_eq, fN_eq]
      rfl
    · refine .inr ⟨h.next, 0, 1 + L.length, blk, by rw [List.length_append, hlen, hcs, ← hcn], by omega, by rw [List.length_append, hlen, hcs, ← hcn], by rw [a2.floor]; exact hf, by omega, b1, ⟨by omega, by omega⟩, b4, b5, b6, b7⟩
    · intro id' g off m' fin cap e
      cases e
      exact ⟨blk, b1, b3⟩
    · rintro i ⟨g, off, m', fin, cap, e⟩
      cases e; exact Nat.le_refl _
end
end Go.Ev

set_option linter.all false
namespace Go.Ev
open Go
structure Ent where
  key : List UInt8
  seq : Int
  del : Bool
  val : List UInt8
deriving DecidableEq
def entZ : Ent := ⟨[], 0, false, []⟩
instance : Inhabited Ent := ⟨entZ⟩
def entC (e : Ent) : List V := [sv e.key, .i .i64 e.seq, .b e.del, sv e.val]
theorem entC_len (e : Ent) : (entC e).length = 4 := rfl
def Es (h : H) (v : V) (L : List Ent) : Prop := Ss 4 entC h v L
section
variable {P : Program} {h h' g' : H} {N : Nx} {v : V} {L : List Ent} {i d : Nat}
theorem Es.ln (a : Es h v L) : H1 P gLen v g' N = N.go P (.i .i64 (L.length : Int)) g' := Ss.ln a
theorem Es.ix (a : Es h v L) (hi : i < L.length) : IX P 4 v i g' N = N.go P (.p (lid v) (lg v) (loff v + i * 4) (lfin v)) g' := Ss.ix a hi
theorem Es.l0 (a : Es h v L) (hi : i < L.length) : L1 P (lid v) (lg v) (loff v + i * 4) (lfin v) h N = N.go P (sv (L.getD i default).key) h := Ss.ld (d := 0) a entC_len hi (by omega)
theorem Es.l1 (a : Es h v L) (hi : i < L.length) : L1 P (lid v) (lg v) (loff v + i * 4 + 1) (lfin v) h N = N.go P (.i .i64 (L.getD i default).seq) h := Ss.ld (d := 1) a entC_len hi (by omega)
theorem Es.l3 (a : Es h v L) (hi : i < L.length) : L1 P (lid v) (lg v) (loff v + i * 4 + 3) (lfin v) h N = N.go P (sv (L.getD i default).val) h := Ss.ld (d := 3) a entC_len hi (by omega)
theorem Es.la (a : Es h v L) (hi : i < L.length) : LN P (lid v) (lg v) (loff v + i * 4) (lfin v) 4 h N = N.go P (.a [sv (L.getD i default).key, .i .i64 (L.getD i default).seq, .b (L.getD i default).del, sv (L.getD i default).val]) h := Ss.ldA a entC_len (by omega) hi
theorem Es.grow (a : Es h v L) (s : Stay nowhere h h') : Es h' v L := Ss.grow a s
end
/-- of a write -/
def isW (key : List UInt8) (del : Bool) (val : List UInt8) : Bool := decide (1 ≤ key.length ∧ key.length ≤ 13 ∧ val.length ≤ 24 ∧ (del = true → val = []))
def isE (e : Ent) : Bool := decide (1 ≤ e.seq ∧ e.seq ≤ 1000000) && isW e.key e.del e.val
theorem isE_iff {e : Ent} : isE e = true ↔ (1 ≤ e.seq ∧ e.seq ≤ 1000000) ∧ 1 ≤ e.key.length ∧ e.key.length ≤ 13 ∧ e.val.length ≤ 24 ∧ (e.del = true → e.val = []) := by
  unfold isE isW; rw [Bool.and_eq_true, decide_eq_true_eq, decide_eq_true_eq]
theorem isE_in {e : Ent} (h1 : 1 ≤ e.seq) (h2 : e.seq ≤ 1000000) : isE e = isW e.key e.del e.val := by unfold isE; rw [decide_eq_true ⟨h1, h2⟩, Bool.true_and]
theorem isE_lo {e : Ent} (h1 : e.seq < 1) : isE e = false := by unfold isE; rw [decide_eq_false (by omega), Bool.false_and]
theorem isE_hi {e : Ent} (h1 : 1000000 < e.seq) : isE e = false := by unfold isE; rw [decide_eq_false (by omega), Bool.false_and]
section
variable {k v : List UInt8} {d : Bool}
theorem isW_lo (h : (k.length : Int) < 1) : isW k d v = false := by unfold isW; rw [decide_eq_false_iff_not]; rintro ⟨a, _⟩; omega
theorem isW_hi (h : 13 < (k.length : Int)) : isW k d v = false := by unfold isW; rw [decide_eq_false_iff_not]; rintro ⟨_, a, _⟩; omega
theorem isW_t (h1 : 1 ≤ (k.length : Int)) (h2 : (k.length : Int) ≤ 13) (hd : d = true) : isW k d v = decide (v = []) := by
  subst hd; unfold isW; congr 1
  refine propext ⟨fun h => h.2.2.2 rfl, fun e => ?_⟩
  subst e; exact ⟨by omega, by omega, by simp, fun _ => rfl⟩
theorem isW_f (h1 : 1 ≤ (k.length : Int)) (h2 : (k.length : Int) ≤ 13) (hd : d = false) : isW k d v = decide ((v.length : Int) ≤ 24) := by
  subst hd; unfold isW; congr 1
  exact propext ⟨fun h => by omega, fun e => ⟨by omega, by omega, by omega, fun h => by cases h⟩⟩
end
def lessE (a b : Ent) : Bool := if a.key = b.key then decide (b.seq < a.seq) else Op.bytesLess a.key b.key
/-- the first k places are in order -/
def srtU (L : List Ent) (k : Nat) : Bool := (List.range k).all fun j => lessE (L.getD j default) (L.getD (j + 1) default)
def sortedE (L : List Ent) : Bool := srtU L (L.length - 1)
theorem srtU_succ (L : List Ent) (k : Nat) : srtU L (k + 1) = (srtU L k && lessE (L.getD k default) (L.getD (k + 1) default)) := by
  unfold srtU; rw [List.range_succ, List.all_append]; simp
theorem srtU_at {L : List Ent} {j k : Nat} (h : srtU L k = true) (hj : j < k) : lessE (L.getD j default) (L.getD (j + 1) default) = true := by
  unfold srtU at h
  rw [List.all_eq_true] at h
  exact h j (by rw [List.mem_range]; exact hj)
theorem sorted_no {L : List Ent} {j : Nat} (hj : j + 1 < L.length) (h : lessE (L.getD j default) (L.getD (j + 1) default) = false) : sortedE L = false := by
  cases hs : sortedE L with
  | false => rfl
  | true => have := srtU_at (j := j) hs (by omega); rw [h] at this; cases this
theorem bl_cons {x y : UInt8} {a b : List UInt8} : Op.bytesLess (x :: a) (y :: b) = true ↔ x.toNat < y.toNat ∨ (x = y ∧ Op.bytesLess a b = true) := by
  simp only [Op.bytesLess, Bool.or_eq_true, Bool.and_eq_true, decide_eq_true_eq, beq_iff_eq, UInt8.lt_iff_toNat_lt]
theorem bl_irr : ∀ l : List UInt8, Op.bytesLess l l = false
  | [] => rfl
  | c :: l => by
    cases h : Op.bytesLess (c :: l) (c :: l) with
    | false => rfl
    | true =>
      rcases bl_cons.1 h with h | ⟨_, h⟩
      · omega
      · rw [bl_irr l] at h; cases h
theorem bl_trans : ∀ {a b c : List UInt8}, Op.bytesLess a b = true → Op.bytesLess b c = true → Op.bytesLess a c = true
  | a, [], c, h, _ => by cases a <;> cases h
  | _, _ :: _, [], _, h => by cases h
  | [], _ :: _, _ :: _, _, _ => rfl
  | x :: a, y :: b, z :: c, h, g => by
    rcases bl_cons.1 h with h1 | ⟨h1, h2⟩ <;> rcases bl_cons.1 g with g1 | ⟨g1, g2⟩
    · exact bl_cons.2 (.inl (by omega))
    · exact bl_cons.2 (.inl (by rw [← g1]; exact h1))
    · exact bl_cons.2 (.inl (by rw [h1]; exact g1))
    · exact bl_cons.2 (.inr ⟨h1.trans g1, bl_trans h2 g2⟩)
theorem bl_asym {a b : List UInt8} (h : Op.bytesLess a b = true) : Op.bytesLess b a = false := by
  cases g : Op.bytesLess b a with
  | false => rfl
  | true => have := bl_trans h g; rw [bl_irr] at this; cases this
theorem bl_total : ∀ {a b : List UInt8}, a ≠ b → Op.bytesLess a b = true ∨ Op.bytesLess b a = true
  | [], [], h => absurd rfl h
  | [], _ :: _, _ => .inl rfl
  | _ :: _, [], _ => .inr rfl
  | x :: a, y :: b, h => by
    by_cases e : x = y
    · subst e
      rcases bl_total (a := a) (b := b) (fun e => h (by rw [e])) with g | g
      · exact .inl (bl_cons.2 (.inr ⟨rfl, g⟩))
      · exact .inr (bl_cons.2 (.inr ⟨rfl, g⟩))
    · have : x.toNat ≠ y.toNat := fun g => e (UInt8.toNat_inj.1 g)
      rcases Nat.lt_or_ge x.toNat y.toNat with g | g
      · exact .inl (bl_cons.2 (.inl g))
      · exact .inr (bl_cons.2 (.inl (by omega)))
theorem lessE_ne {a b : Ent} (h : ¬ a.key = b.key) : lessE a b = Op.bytesLess a.key b.key := if_neg h
theorem lessE_eq {a b : Ent} (h : a.key = b.key) : lessE a b = decide (b.seq < a.seq) := if_pos h
theorem lessE_lt {a b : Ent} (h : Op.bytesLess a.key b.key = true) : lessE a b = true := by
  rw [lessE_ne]
  · exact h
  · intro e; rw [e, bl_irr] at h; cases h
theorem lessE_trans {a b c : Ent} (h : lessE a b = true) (g : lessE b c = true) : lessE a c = true := by
  unfold lessE at *
  by_cases e1 : a.key = b.key <;> by_cases e2 : b.key = c.key
  · rw [if_pos e1] at h; rw [if_pos e2] at g; rw [if_pos (e1.trans e2)]
    simp at h g ⊢; omega
  · rw [if_neg e2] at g; rw [e1, if_neg e2]; exact g
  · rw [if_neg e1] at h; rw [← e2, if_neg e1]; exact h
  · rw [if_neg e1] at h; rw [if_neg e2] at g
    have := bl_trans h g
    rw [if_neg]
    · exact this
    · intro e; rw [e, bl_irr] at this; cases this
def tailB (e : Ent) : List UInt8 := numB e.seq.toNat ++ (if e.del then [1] else 0 :: textB e.val)
def bytesE (e : Ent) : List UInt8 := if isE e then textB e.key ++ tailB e else []
/-- what is told of an entry that was read, of n bytes -/
def chkE (x : Ent) (n : Int) : Ent × Int × Int := if isE x then (x, n, 0) else (entZ, 0, 10)
/-- what stands behind a key -/
def tailU (key s : List UInt8) : Ent × Int × Int :=
  if (takeN s).2.2 ≠ 0 then (entZ, 0, (takeN s).2.2) else
  if (takeN s).2.1.toNat = s.length then (entZ, 0, 12) else
  if s.getD (takeN s).2.1.toNat 0 = 0 then
    if (takeT (s.drop ((takeN s).2.1.toNat + 1))).2.2 ≠ 0 then (entZ, 0, (takeT (s.drop ((takeN s).2.1.toNat + 1))).2.2)
    else (⟨key, (takeN s).1, false, (takeT (s.drop ((takeN s).2.1.toNat + 1))).1⟩, (takeN s).2.1 + 1 + (takeT (s.drop ((takeN s).2.1.toNat + 1))).2.1, 0)
  else if s.getD (takeN s).2.1.toNat 0 = 1 then (⟨key, (takeN s).1, true, []⟩, (takeN s).2.1 + 1, 0) else (entZ, 0, 10)
def takeE (s : List UInt8) : Ent × Int × Int :=
  if (takeT s).2.2 ≠ 0 then (entZ, 0, (takeT s).2.2) else
  if (tailU (takeT s).1 (s.drop (takeT s).2.1.toNat)).2.2 ≠ 0 then (entZ, 0, (tailU (takeT s).1 (s.drop (takeT s).2.1.toNat)).2.2)
  else ((tailU (takeT s).1 (s.drop (takeT s).2.1.toNat)).1, (takeT s).2.1 + (tailU (takeT s).1 (s.drop (takeT s).2.1.toNat)).2.1, 0)
section
variable {s k v : List UInt8} {n m j : Nat} {q e : Int}
theorem takeE_1 (h : takeT s = ([], 0, e)) (he : e ≠ 0) : takeE s = (entZ, 0, e) := by unfold takeE; rw [h]; exact if_pos he
theorem takeE_2 (h : takeT s = (k, (n : Int), 0)) : takeE s = if (tailU k (s.drop n)).2.2 ≠ 0 then (entZ, 0, (tailU k (s.drop n)).2.2) else ((tailU k (s.drop n)).1, (n : Int) + (tailU k (s.drop n)).2.1, 0) := by
  unfold takeE; rw [h]; rfl
theorem takeE_3 (h : takeT s = (k, (n : Int), 0)) (h2 : tailU k (s.drop n) = (entZ, 0, e)) (he : e ≠ 0) : takeE s = (entZ, 0, e) := by rw [takeE_2 h, h2]; exact if_pos he
theorem takeE_4 {x : Ent} {z : Int} (h : takeT s = (k, (n : Int), 0)) (h2 : tailU k (s.drop n) = (x, z, 0)) : takeE s = (x, (n : Int) + z, 0) := by rw [takeE_2 h, h2]; rfl
theorem tailU_1 (h : takeN s = (0, 0, e)) (he : e ≠ 0) : tailU k s = (entZ, 0, e) := by unfold tailU; rw [h]; exact if_pos he
theorem tailU_2 (h : takeN s = (q, (m : Int), 0)) (hm : m = s.length) : tailU k s = (entZ, 0, 12) := by
  unfold tailU; rw [h]; simp only [Int.toNat_natCast, ne_eq, not_true_eq_false, if_false, hm, if_true]
theorem tailU_3 (h : takeN s = (q, (m : Int), 0)) (hm : m ≠ s.length) (hc : (s.getD m 0).toNat = 0) (ht : takeT (s.drop (m + 1)) = ([], 0, e)) (he : e ≠ 0) : tailU k s = (entZ, 0, e) := by
  have hc : s.getD m 0 = 0 := UInt8.toNat_inj.1 hc
  unfold tailU; rw [h]; simp only [Int.toNat_natCast, ne_eq, not_true_eq_false, if_false, hm, hc, if_true, ht, he, not_false_eq_true]
theorem tailU_4 (h : takeN s = (q, (m : Int), 0)) (hm : m ≠ s.length) (hc : (s.getD m 0).toNat = 0) (ht : takeT (s.drop (m + 1)) = (v, (j : Int), 0)) : tailU k s = (⟨k, q, false, v⟩, (m : Int) + 1 + (j : Int), 0) := by
  have hc : s.getD m 0 = 0 := UInt8.toNat_inj.1 hc
  unfold tailU; rw [h]; simp only [Int.toNat_natCast, ne_eq, not_true_eq_false, if_false, hm, hc, if_true, ht]
theorem tailU_5 (h : takeN s = (q, (m : Int), 0)) (hm : m ≠ s.length) (hc : (s.getD m 0).toNat = 1) : tailU k s = (⟨k, q, true, []⟩, (m : Int) + 1, 0) := by
  have hc : s.getD m 0 = 1 := UInt8.toNat_inj.1 hc
  unfold tailU; rw [h]; simp only [Int.toNat_natCast, ne_eq, not_true_eq_false, if_false, hm, hc, if_true]; rfl
theorem tailU_6 (h : takeN s = (q, (m : Int), 0)) (hm : m ≠ s.length) (hc : (s.getD m 0).toNat ≠ 0) (hc1 : (s.getD m 0).toNat ≠ 1) : tailU k s = (entZ, 0, 10) := by
  have hc : ¬ s.getD m 0 = 0 := fun e => hc (by rw [e]; rfl)
  have hc1 : ¬ s.getD m 0 = 1 := fun e => hc1 (by rw [e]; rfl)
  unfold tailU; rw [h]; simp only [Int.toNat_natCast, ne_eq, not_true_eq_false, if_false, hm, hc, hc1]
theorem getD_drop (n m : Nat) : (s.drop n).getD m 0 = s.getD (n + m) 0 := by simp [List.getD]
end
def chkd (r : Ent × Int × Int) : Ent × Int × Int := if r.2.2 ≠ 0 then (entZ, 0, r.2.2) else chkE r.1 r.2.1
def readE (s : List UInt8) : Ent × Int × Int := chkd (takeE s)
theorem readE_1 {s : List UInt8} (h : (takeE s).2.2 ≠ 0) : readE s = (entZ, 0, (takeE s).2.2) := if_pos h
theorem readE_2 {s : List UInt8} (h : (takeE s).2.2 = 0) (hi : isE (takeE s).1 = false) : readE s = (entZ, 0, 10) := by unfold readE chkd chkE; rw [h, hi]; rfl
theorem readE_3 {s : List UInt8} (h : (takeE s).2.2 = 0) (hi : isE (takeE s).1 = true) : readE s = ((takeE s).1, (takeE s).2.1, 0) := by unfold readE chkd chkE; rw [h, hi]; rfl
theorem readE_ref {s k : List UInt8} {n : Nat} (h : takeT s = (k, (n : Int), 0)) : readE s = if (chkd (tailU k (s.drop n))).2.2 ≠ 0 then (entZ, 0, (chkd (tailU k (s.drop n))).2.2) else ((chkd (tailU k (s.drop n))).1, (n : Int) + (chkd (tailU k (s.drop n))).2.1, 0) := by
  have e := takeE_2 h
  generalize hr : tailU k (s.drop n) = r at *
  obtain ⟨x, z, f⟩ := r
  by_cases hf : f = 0
  · subst hf
    have e : takeE s = (x, (n : Int) + z, 0) := e
    cases hi : isE x with
    | true => rw [readE_3 (by rw [e]) (by rw [e]; exact hi), e]; unfold chkd chkE; simp [hi]
    | false => rw [readE_2 (by rw [e]) (by rw [e]; exact hi)]; unfold chkd chkE; simp [hi]
  · have e : takeE s = (entZ, 0, f) := by rw [e]; exact if_pos hf
    rw [readE_1 (by rw [e]; exact hf), e]
    unfold chkd; simp [hf]
theorem chkd_ok {x : Ent} {z : Int} (hi : isE x = true) : chkd (x, z, 0) = (x, z, 0) := by unfold chkd chkE; rw [hi]; rfl
/-- what it is, as a value -/
def triE (r : Ent × Int × Int) : V := .tu [.a (entC r.1), .i .i64 r.2.1, .i .i64 r.2.2]
def hitE (key : List UInt8) (seq : Int) (e : Ent) : Bool := decide (e.key = key) && decide (e.seq ≤ seq)
def newestO (L : List Ent) (key : List UInt8) (seq : Int) : Option Ent := if sortedE L then L.find? (hitE key seq) else none
def newestE (L : List Ent) (key : List UInt8) (seq : Int) : Ent × Bool := match newestO L key seq with
  | some e => (e, true)
  | none => (entZ, false)
theorem find_at {p : Ent → Bool} {L : List Ent} {i : Nat} (hb : ∀ j, j < i → p (L.getD j default) = false) (hi : i < L.length) (hp : p (L.getD i default) = true) : L.find? p = some (L.getD i default) := by
  have e : L = L.take i ++ L.getD i default :: L.drop (i + 1) := by
    have : L.getD i default = L[i] := by simp [List.getD, hi]
    rw [this, ← List.drop_eq_getElem_cons hi, List.take_append_drop]
  generalize hx : L.getD i default = x at *
  rw [e, List.find?_append]
  have hn : (L.take i).find? p = none := by
    rw [List.find?_eq_none]
    intro y hy
    obtain ⟨j, hj, rfl⟩ := List.getElem_of_mem hy
    rw [List.length_take] at hj
    have := hb j (by omega)
    rw [show L.getD j default = (L.take i)[j] by simp [List.getD, show j < L.length by omega]] at this
    rw [this]; decide
  rw [hn]
  simp [hp]
theorem find_no {p : Ent → Bool} {L : List Ent} (hb : ∀ j, j < L.length → p (L.getD j default) = false) : L.find? p = none := by
  rw [List.find?_eq_none]
  intro y hy
  obtain ⟨j, hj, rfl⟩ := List.getElem_of_mem hy
  have := hb j hj
  rw [show L.getD j default = L[j] by simp [List.getD, hj]] at this
  rw [this]; decide
theorem hit_less {key : List UInt8} {seq : Int} {e : Ent} {d : Bool} {v : List UInt8} (h : lessE e ⟨key, seq, d, v⟩ = true) : hitE key seq e = false := by
  unfold hitE
  by_cases hk : e.key = key
  · rw [lessE_eq hk] at h
    have h : seq < e.seq := of_decide_eq_true h
    rw [decide_eq_false (p := e.seq ≤ seq) (by omega), Bool.and_false]
  · rw [decide_eq_false hk, Bool.false_and]
theorem sorted_lt {L : List Ent} (hs : sortedE L = true) : ∀ {i j : Nat}, i < j → j < L.length → lessE (L.getD i default) (L.getD j default) = true := by
  intro i j hij
  induction j with
  | zero => omega
  | succ j ih =>
    intro hj
    have h1 : lessE (L.getD j default) (L.getD (j + 1) default) = true := srtU_at (k := L.length - 1) hs (by omega)
    by_cases e : i = j
    · subst e; exact h1
    · exact lessE_trans (ih (by omega) (by omega)) h1
/-- behind an entry that is not ahead of what is wanted, and of another key, there is none of that key -/
theorem hit_past {L : List Ent} (hs : sortedE L = true) {key : List UInt8} {seq : Int} {d : Bool} {v : List UInt8} {i j : Nat} (hi : i < L.length) (hn : lessE (L.getD i default) ⟨key, seq, d, v⟩ = false) (hk : (L.getD i default).key ≠ key) (hij : i ≤ j) (hj : j < L.length) : hitE key seq (L.getD j default) = false := by
  have hlt : Op.bytesLess key (L.getD i default).key = true := by
    rw [lessE_ne hk] at hn
    rcases bl_total hk with h | h
    · rw [h] at hn; cases hn
    · exact h
  have hkj : (L.getD j default).key ≠ key := by
    by_cases e : i = j
    · subst e; exact hk
    · have h1 := sorted_lt hs (show i < j by omega) hj
      intro ek
      by_cases e2 : (L.getD i default).key = (L.getD j default).key
      · exact hk (e2.trans ek)
      · rw [lessE_ne e2, ek] at h1
        have := bl_asym h1
        rw [hlt] at this; cases this
  unfold hitE
  rw [decide_eq_false hkj, Bool.false_and]
theorem newest_found {L : List Ent} (hs : sortedE L = true) {key : List UInt8} {seq : Int} {d : Bool} {v : List UInt8} {i : Nat} (hb : ∀ j, j < i → lessE (L.getD j default) ⟨key, seq, d, v⟩ = true) (hi : i < L.length) (hn : lessE (L.getD i default) ⟨key, seq, d, v⟩ = false) (hk : (L.getD i default).key = key) : newestE L key seq = (L.getD i default, true) := by
  have : newestO L key seq = some (L.getD i default) := by
    unfold newestO; rw [if_pos hs]
    refine find_at (fun j hj => hit_less (hb j hj)) hi ?_
    unfold hitE
    rw [decide_eq_true hk, Bool.true_and]
    rw [lessE_eq hk] at hn
    have hn : ¬ seq < (L.getD i default).seq := of_decide_eq_false hn
    exact decide_eq_true (by omega)
  unfold newestE; rw [this]
theorem newest_past {L : List Ent} (hs : sortedE L = true) {key : List UInt8} {seq : Int} {d : Bool} {v : List UInt8} {i : Nat} (hb : ∀ j, j < i → lessE (L.getD j default) ⟨key, seq, d, v⟩ = true) (hi : i < L.length) (hn : lessE (L.getD i default) ⟨key, seq, d, v⟩ = false) (hk : (L.getD i default).key ≠ key) : newestE L key seq = (entZ, false) := by
  have : newestO L key seq = none := by
    unfold newestO; rw [if_pos hs]
    refine find_no fun j hj => ?_
    rcases Nat.lt_or_ge j i with h | h
    · exact hit_less (hb j h)
    · exact hit_past hs hi hn hk h hj
  unfold newestE; rw [this]
theorem newest_end {L : List Ent} {key : List UInt8} {seq : Int} (hb : ∀ j, j < L.length → hitE key seq (L.getD j default) = false) : newestE L key seq = (entZ, false) := by
  have : newestO L key seq = none := by
    unfold newestO
    split
    · exact find_no hb
    · rfl
  unfold newestE; rw [this]
theorem newest_un {L : List Ent} (hs : sortedE L = false) {key : List UInt8} {seq : Int} : newestE L key seq = (entZ, false) := by
  have : newestO L key seq = none := by unfold newestO; rw [hs]; rfl
  unfold newestE; rw [this]
theorem newest_at {L : List Ent} (hs : sortedE L = true) {key : List UInt8} {seq : Int} {i : Nat} (hb : ∀ j, j < i → hitE key seq (L.getD j default) = false) (hi : i < L.length) (hk : hitE key seq (L.getD i default) = true) : newestE L key seq = (L.getD i default, true) := by
  have : newestO L key seq = some (L.getD i default) := by unfold newestO; rw [if_pos hs]; exact find_at hb hi hk
  unfold newestE; rw [this]
theorem all_at {p : Ent → Bool} {L : List Ent} {i : Nat} (hi : i < L.length) (h : p (L.getD i default) = false) : L.all p = false := by
  rw [List.all_eq_false]
  refine ⟨L[i], by simp, ?_⟩
  rw [show L.getD i default = L[i] by simp [List.getD, hi]] at h
  rw [h]; decide
theorem all_ok {p : Ent → Bool} {L : List Ent} (h : ∀ j, j < L.length → p (L.getD j default) = true) : L.all p = true := by
  rw [List.all_eq_true]
  intro y hy
  obtain ⟨j, hj, rfl⟩ := List.getElem_of_mem hy
  have := h j hj
  rwa [show L.getD j default = L[j] by simp [List.getD, hj]] at this
def twoE (r : Ent × Bool) : V := .tu [.a (entC r.1), .b r.2]
end Go.Ev

set_option linter.all false
namespace Go.Ev
open Go
/-- the sum's two parts, one byte further -/
def adlStep (p : Nat × Nat) (c : UInt8) : Nat × Nat := ((p.1 + c.toNat) % 65521, (p.2 + (p.1 + c.toNat) % 65521) % 65521)
def adlF (p : Nat × Nat) (l : List UInt8) : Nat × Nat := l.foldl adlStep p
def adl (l : List UInt8) : Nat × Nat := adlF (1, 0) l
def sumB (l : List UInt8) : Nat := (adl l).2 * 65536 + (adl l).1
theorem adlF_append (p : Nat × Nat) (a b : List UInt8) : adlF p (a ++ b) = adlF (adlF p a) b := List.foldl_append
theorem adlF_lt {p : Nat × Nat} (h1 : p.1 < 65521) (h2 : p.2 < 65521) : ∀ l, (adlF p l).1 < 65521 ∧ (adlF p l).2 < 65521 := by
  intro l
  induction l generalizing p with
  | nil => exact ⟨h1, h2⟩
  | cons c l ih => exact ih (p := adlStep p c) (Nat.mod_lt _ (by omega)) (Nat.mod_lt _ (by omega))
theorem adl_lt (l : List UInt8) : (adl l).1 < 65521 ∧ (adl l).2 < 65521 := adlF_lt (by decide) (by decide) l
theorem sumB_lt (l : List UInt8) : sumB l < 4294967296 := by
  have := adl_lt l
  unfold sumB; omega
theorem sumB_snoc (l : List UInt8) (c : UInt8) : adl (l ++ [c]) = adlStep (adl l) c := by
  unfold adl; rw [adlF_append]; rfl
/-- four bytes of a number, the highest first -/
def fourB (n : Nat) : List UInt8 := [UInt8.ofNat (n / 16777216), UInt8.ofNat (n / 65536), UInt8.ofNat (n / 256), UInt8.ofNat n]
theorem fourB_len (n : Nat) : (fourB n).length = 4 := rfl
def sealB (l : List UInt8) : List UInt8 := numB l.length ++ fourB (sumB l) ++ l
theorem sealB_len (l : List UInt8) : (sealB l).length = (numB l.length).length + 4 + l.length := by
  unfold sealB; rw [List.length_append, List.length_append, fourB_len]
/-- what is sealed at the front -/
def openB (l : List UInt8) : List UInt8 × Int × Int :=
  if (takeN l).2.2 = 12 then ([], 0, 12) else if (takeN l).2.2 ≠ 0 then ([], 0, 13) else
  if ((l.length : Int) - (takeN l).2.1 < 4 ∨ (l.length : Int) - (takeN l).2.1 - 4 < (takeN l).1) then ([], 0, 12) else
  if fourB (sumB ((l.drop ((takeN l).2.1.toNat + 4)).take (takeN l).1.toNat)) ≠ (l.drop (takeN l).2.1.toNat).take 4 then ([], 0, 13) else
  ((l.drop ((takeN l).2.1.toNat + 4)).take (takeN l).1.toNat, (takeN l).2.1 + 4 + (takeN l).1, 0)
/-- with a number at the front -/
theorem openB_num {l : List UInt8} {n k : Nat} (h : takeN l = ((n : Int), (k : Int), 0)) : openB l = if ((l.length : Int) - k < 4 ∨ (l.length : Int) - k - 4 < n) then ([], 0, 12) else
    if fourB (sumB ((l.drop (k + 4)).take n)) ≠ (l.drop k).take 4 then ([], 0, 13) else ((l.drop (k + 4)).take n, (k : Int) + 4 + n, 0) := by
  unfold openB
  rw [h]
  simp only [Int.toNat_natCast]
  rw [if_neg (by decide), if_neg (by simp)]
theorem openB_seal {l more : List UInt8} (h : l.length ≤ 9223372036854775807) : openB (sealB l ++ more) = (l, ((sealB l).length : Int), 0) := by
  have e : sealB l ++ more = numB l.length ++ (fourB (sumB l) ++ l ++ more) := by unfold sealB; simp
  have ht : takeN (sealB l ++ more) = ((l.length : Int), ((numB l.length).length : Int), 0) := by rw [e]; exact takeN_numB h _
  rw [openB_num ht]
  have hlen : (sealB l ++ more).length = (numB l.length).length + 4 + l.length + more.length := by rw [List.length_append, sealB_len]
  have d1 : (sealB l ++ more).drop (numB l.length).length = fourB (sumB l) ++ l ++ more := by rw [e, List.drop_left]
  have d2 : (sealB l ++ more).drop ((numB l.length).length + 4) = l ++ more := by
    rw [← List.drop_drop, d1]
    show (fourB (sumB l) ++ l ++ more).drop (fourB (sumB l)).length = _
    rw [List.append_assoc, List.drop_left]
  have d3 : (fourB (sumB l) ++ l ++ more).take 4 = fourB (sumB l) := by
    show (fourB (sumB l) ++ l ++ more).take (fourB (sumB l)).length = _
    rw [List.append_assoc, List.take_left]
  rw [if_neg (by omega), d1, d2, d3, List.take_left, if_neg (by simp), sealB_len]
  congr 1
end Go.Ev

set_option linter.all false
namespace Go.Ev
open Go
theorem adl_take {l : List UInt8} {i : Nat} (h : i < l.length) : adl (l.take (i + 1)) = adlStep (adl (l.take i)) (l.getD i 0) := by
  rw [← sumB_snoc]
  congr 1
  rw [List.take_succ_eq_append_getElem h]
  simp [List.getD, h]
theorem openB_range (l : List UInt8) : openB l = ([], 0, 12) ∨ openB l = ([], 0, 13) ∨ ∃ (x : List UInt8) (n : Nat), openB l = (x, (n : Int), 0) ∧ 5 ≤ n ∧ n ≤ l.length ∧ x.length + 5 ≤ n := by
  rcases takeN_range l with (hc | hc) | ⟨n, k, hc, h1, h2, h3, h4⟩
  · right; left; unfold openB; rw [hc]; rfl
  · left; unfold openB; rw [hc]; rfl
  · rw [openB_num hc]
    by_cases c1 : ((l.length : Int) - k < 4 ∨ (l.length : Int) - k - 4 < n)
    · rw [if_pos c1]; exact .inl rfl
    · rw [if_neg c1]
      by_cases c2 : fourB (sumB ((l.drop (k + 4)).take n)) ≠ (l.drop k).take 4
      · rw [if_pos c2]; exact .inr (.inl rfl)
      · rw [if_neg c2]
        refine .inr (.inr ⟨_, k + 4 + n, rfl, by omega, by omega, ?_⟩)
        rw [List.length_take]; omega
end Go.Ev

set_option linter.all false
namespace Go.Ev
open Go
/-- how far two keys are alike -/
def sharedB : List UInt8 → List UInt8 → Nat
  | x :: a, y :: b => if x = y then sharedB a b + 1 else 0
  | _, _ => 0
theorem sharedB_le : ∀ (a b : List UInt8), sharedB a b ≤ a.length ∧ sharedB a b ≤ b.length
  | x :: a, y :: b => by
    have ih := sharedB_le a b
    unfold sharedB
    split <;> simp <;> omega
  | [], _ => by simp [sharedB]
  | _ :: _, [] => by simp [sharedB]
theorem sharedB_at : ∀ {a b : List UInt8} {n : Nat}, n ≤ a.length → n ≤ b.length → (∀ i, i < n → a.getD i 0 = b.getD i 0) → (n = a.length ∨ n = b.length ∨ a.getD n 0 ≠ b.getD n 0) → sharedB a b = n
  | [], b, n, h1, _, _, _ => by simp at h1; subst h1; rfl
  | x :: a, [], n, _, h2, _, _ => by simp at h2; subst h2; rfl
  | x :: a, y :: b, 0, _, _, _, h => by
    have : x ≠ y := by
      rcases h with h | h | h
      · simp at h
      · simp at h
      · exact h
    unfold sharedB; rw [if_neg this]
  | x :: a, y :: b, n + 1, h1, h2, he, h => by
    have e0 : x = y := he 0 (by omega)
    have ih := sharedB_at (a := a) (b := b) (n := n) (by simpa using h1) (by simpa using h2) (fun i hi => he (i + 1) (by omega)) (by
      rcases h with h | h | h
      · exact .inl (by simpa using h)
      · exact .inr (.inl (by simpa using h))
      · exact .inr (.inr h))
    unfold sharedB; rw [if_pos e0, ih]
theorem sharedB_comm : ∀ a b : List UInt8, sharedB a b = sharedB b a
  | [], [] => rfl
  | [], _ :: _ => rfl
  | _ :: _, [] => rfl
  | x :: a, y :: b => by
    unfold sharedB
    by_cases e : x = y
    · rw [if_pos e, if_pos e.symm, sharedB_comm a b]
    · rw [if_neg e, if_neg (fun h => e h.symm)]
theorem sharedB_take : ∀ a b : List UInt8, a.take (sharedB a b) = b.take (sharedB a b)
  | [], [] => rfl
  | [], _ :: _ => rfl
  | _ :: _, [] => rfl
  | x :: a, y :: b => by
    unfold sharedB
    by_cases e : x = y
    · rw [if_pos e, List.take_succ_cons, List.take_succ_cons, sharedB_take a b, e]
    · rw [if_neg e]; rfl
/-- an entry behind a key -/
def oneB (p : List UInt8) (e : Ent) : List UInt8 := numB (sharedB e.key p) ++ textB (e.key.drop (sharedB e.key p)) ++ tailB e
def bodyB : List UInt8 → List Ent → List UInt8
  | _, [] => []
  | p, e :: L => oneB p e ++ bodyB e.key L
def blkE (L : List Ent) : List UInt8 × Int := if L.all isE = false ∨ L = [] then ([], 10) else if sortedE L = false then ([], 16) else (sealB (bodyB [] L), 0)
theorem blkE_bad {L : List Ent} (h : L.all isE = false) : blkE L = ([], 10) := if_pos (.inl h)
theorem blkE_nil : blkE [] = ([], 10) := if_pos (.inr rfl)
theorem blkE_un {L : List Ent} (h : L.all isE = true) (hn : L ≠ []) (hs : sortedE L = false) : blkE L = ([], 16) := by
  unfold blkE; rw [if_neg (fun e => e.elim (fun e => by rw [h] at e; cases e) hn), if_pos hs]
theorem blkE_ok {L : List Ent} (h : L.all isE = true) (hn : L ≠ []) (hs : sortedE L = true) : blkE L = (sealB (bodyB [] L), 0) := by
  unfold blkE; rw [if_neg (fun e => e.elim (fun e => by rw [h] at e; cases e) hn), if_neg (by rw [hs]; decide)]
theorem tailB_len {e : Ent} (h : isE e = true) : (tailB e).length ≤ 43 := by
  obtain ⟨⟨s1, s2⟩, k1, k2, k3, k4⟩ := isE_iff.1 h
  have l3 := numB_len (n := e.seq.toNat) (by omega)
  have l4 := numB_len (n := e.val.length) (by omega)
  unfold tailB textB
  rw [List.length_append]
  split <;> simp <;> omega
theorem oneB_len {p : List UInt8} {e : Ent} (h : isE e = true) : (oneB p e).length ≤ 80 := by
  have h1 := tailB_len h
  obtain ⟨_, k1, k2, _⟩ := isE_iff.1 h
  have hs := sharedB_le e.key p
  have l3 := numB_len (n := sharedB e.key p) (by omega)
  have l4 := numB_len (n := (e.key.drop (sharedB e.key p)).length) (by rw [List.length_drop]; omega)
  unfold oneB textB
  simp only [List.length_append, List.length_drop] at *
  omega
theorem bodyB_len : ∀ {L : List Ent} {p : List UInt8}, L.all isE = true → (bodyB p L).length ≤ 80 * L.length
  | [], _, _ => by simp [bodyB]
  | e :: L, p, h => by
    rw [List.all_cons, Bool.and_eq_true] at h
    have h1 := oneB_len (p := p) h.1
    have h2 := bodyB_len (p := e.key) h.2
    have e1 : bodyB p (e :: L) = oneB p e ++ bodyB e.key L := rfl
    rw [e1, List.length_append, List.length_cons]; omega
/-- one step of reading: the entry, how many bytes -/
def stepE (p r : List UInt8) : Option (Ent × Nat) :=
  if (takeN r).2.2 ≠ 0 ∨ (p.length : Int) < (takeN r).1 then none else
  if (takeT (r.drop (takeN r).2.1.toNat)).2.2 ≠ 0 then none else
  if (chkd (tailU (p.take (takeN r).1.toNat ++ (takeT (r.drop (takeN r).2.1.toNat)).1) (r.drop ((takeN r).2.1.toNat + (takeT (r.drop (takeN r).2.1.toNat)).2.1.toNat)))).2.2 ≠ 0 then none else
  some ((chkd (tailU (p.take (takeN r).1.toNat ++ (takeT (r.drop (takeN r).2.1.toNat)).1) (r.drop ((takeN r).2.1.toNat + (takeT (r.drop (takeN r).2.1.toNat)).2.1.toNat)))).1,
    (takeN r).2.1.toNat + (takeT (r.drop (takeN r).2.1.toNat)).2.1.toNat + (chkd (tailU (p.take (takeN r).1.toNat ++ (takeT (r.drop (takeN r).2.1.toNat)).1) (r.drop ((takeN r).2.1.toNat + (takeT (r.drop (takeN r).2.1.toNat)).2.1.toNat)))).2.1.toNat)
section
variable {p r t : List UInt8} {k i j m : Nat} {e : Int} {x : Ent}
theorem stepE_3 (h : takeN r = ((k : Int), (i : Int), 0)) (hk : k ≤ p.length) (h2 : takeT (r.drop i) = ([], 0, e)) (he : e ≠ 0) : stepE p r = none := by
  unfold stepE; rw [h]; simp only [Int.toNat_natCast]
  rw [if_neg (by rintro (h | h) <;> omega), h2]; exact if_pos he
theorem stepE_5 (h : takeN r = ((k : Int), (i : Int), 0)) (hk : k ≤ p.length) (h2 : takeT (r.drop i) = (t, (j : Int), 0)) (h3 : chkd (tailU (p.take k ++ t) (r.drop (i + j))) = (x, (m : Int), 0)) : stepE p r = some (x, i + j + m) := by
  unfold stepE; rw [h]; simp only [Int.toNat_natCast]
  rw [if_neg (by rintro (h | h) <;> omega), h2]; simp only [Int.toNat_natCast]
  rw [if_neg (by simp), h3]; simp only [Int.toNat_natCast]
  rw [if_neg (by simp)]
end
/-- the entries of bytes, behind a key; the first number is how many steps at most -/
def prsE : Nat → List UInt8 → List UInt8 → Option (List Ent)
  | 0, _, r => if r = [] then some [] else none
  | f + 1, p, r => if r = [] then some [] else match stepE p r with
    | none => none
    | some (x, n) => (prsE f x.key (r.drop n)).map (x :: ·)
theorem prsE_nil (f : Nat) (p : List UInt8) : prsE f p [] = some [] := by cases f <;> rfl
theorem prsE_some {f : Nat} {p r : List UInt8} {x : Ent} {n : Nat} (hr : r ≠ []) (h : stepE p r = some (x, n)) : prsE (f + 1) p r = (prsE f x.key (r.drop n)).map (x :: ·) := by
  rw [prsE, if_neg hr, h]
def readB (s : List UInt8) : List Ent × Int :=
  if (openB s).2.2 ≠ 0 then ([], (openB s).2.2) else if (openB s).2.1 ≠ (s.length : Int) then ([], 13) else
  match prsE (openB s).1.length [] (openB s).1 with
  | none => ([], 10)
  | some L => if (blkE L).2 = 0 ∧ (blkE L).1 = s then (L, 0) else ([], 10)
section
variable {s b : List UInt8} {n : Nat} {e : Int} {L : List Ent}
theorem readB_1 (h : openB s = ([], 0, e)) (he : e ≠ 0) : readB s = ([], e) := by unfold readB; rw [h]; exact if_pos he
theorem readB_2 (h : openB s = (b, (n : Int), 0)) (hn : n ≠ s.length) : readB s = ([], 13) := by
  unfold readB; rw [h]; simp only; rw [if_neg (by simp), if_pos (by omega)]
theorem readB_3 (h : openB s = (b, (n : Int), 0)) (hn : n = s.length) (h2 : prsE b.length [] b = none) : readB s = ([], 10) := by
  unfold readB; rw [h]; simp only; rw [if_neg (by simp), if_neg (by simp; omega), h2]
theorem readB_4 (h : openB s = (b, (n : Int), 0)) (hn : n = s.length) (h2 : prsE b.length [] b = some L) : readB s = if (blkE L).2 = 0 ∧ (blkE L).1 = s then (L, 0) else ([], 10) := by
  unfold readB; rw [h]; simp only; rw [if_neg (by simp), if_neg (by simp; omega), h2]
end
theorem prsE_len : ∀ {f : Nat} {p r : List UInt8} {L : List Ent}, prsE f p r = some L → L.length ≤ f
  | 0, p, r, L, h => by
    unfold prsE at h
    split at h
    · cases h; exact Nat.le_refl _
    · cases h
  | f + 1, p, r, L, h => by
    unfold prsE at h
    split at h
    · cases h; simp
    · split at h
      · cases h
      · rename_i x n _
        cases hp : prsE f x.key (r.drop n) with
        | none => rw [hp] at h; cases h
        | some M => rw [hp] at h; cases h; have := prsE_len hp; simp; omega
theorem openB_le (s : List UInt8) : (openB s).1.length ≤ s.length := by
  rcases openB_range s with h | h | ⟨x, n, h, _, h2, h3⟩ <;> rw [h] <;> simp <;> omega
theorem readB_len (s : List UInt8) : (readB s).1.length ≤ s.length := by
  have h0 := openB_le s
  unfold readB
  split
  · simp
  · split
    · simp
    · split
      · simp
      · rename_i L hp
        have := prsE_len hp
        split
        · exact Nat.le_trans this h0
        · simp
end Go.Ev

set_option maxRecDepth 1000000
set_option linter.all false
namespace Go.Proofs.Ytiingkpdodbldaa
open Go Go.Ev
noncomputable abbrev s48_0 : CC := (CC.seq (CC.region [(wB 3 (doFieldAddr 1 (tm 1))), (wB 4 (doLoad (tm 3))), (wB 5 (bin2 fGeq (tm 4) (oN 1))), (wB 6 (doMove (tm 5))), (wG 6 true 7 (doFieldAddr 1 (tm 1))), (wG 6 true 8 (doLoad (tm 7))), (wG 6 true 9 (bin2 fLeq (tm 8) (oN 1000000))), (wB 10 (doPick (tm 6) (tm 9) (O.c (V.b Bool.false)))), (wB 11 (doMove (tm 10))), (wG 11 true 12 (doFieldAddr 0 (tm 1))), (wG 11 true 13 (doLoad (tm 12))), (wG 11 true 14 (doFieldAddr 2 (tm 1))), (wG 11 true 15 (doLoad (tm 14))), (wG 11 true 16 (doFieldAddr 3 (tm 1))), (wG 11 true 17 (doLoad (tm 16))), (wG 11 true 18 (doBuild [(V.s 0 0), (V.b Bool.false), (V.s 0 0)] [(Pt.mk 0 1 (tm 13)), (Pt.mk 1 1 (tm 15)), (Pt.mk 2 1 (tm 17))])), (wG 11 true 19 (doCall 71 [(tm 18)])), (wB 20 (doPick (tm 11) (tm 19) (O.c (V.b Bool.false)))), (wB 2 (doMove (tm 20)))]) CC.ret)
noncomputable abbrev b48 : CC := (CC.seq (CC.region [(wB 1 (doBox 34 (tm 0))), (wB 2 (doMove (O.c (V.b Bool.false))))]) s48_0)
theorem c48 : compFn Try.prog 48 = ⟨21, b48, [(Rs.tmp (slOf 2))]⟩ := by kernel_rfl
noncomputable abbrev s72_0 : CC := (CC.seq (CC.region [(wB 10 (doFieldAddr 0 (tm 2))), (wB 11 (doLoad (tm 10))), (wB 12 (doFieldAddr 0 (tm 3))), (wB 13 (doLoad (tm 12))), (wB 14 (doSCmp ltS (tm 11) (tm 13))), (wB 4 (doMove (tm 14)))]) CC.ret)
noncomputable abbrev s72_1 : CC := (CC.cond (tm 9) s72_0 CC.skip)
noncomputable abbrev s72_2 : CC := (CC.seq (CC.region [(wB 5 (doFieldAddr 0 (tm 2))), (wB 6 (doLoad (tm 5))), (wB 7 (doFieldAddr 0 (tm 3))), (wB 8 (doLoad (tm 7))), (wB 9 (doSCmp (fun a b c d => !eqS a b c d) (tm 6) (tm 8)))]) s72_1)
noncomputable abbrev s72_3 : CC := (CC.seq (CC.region [(wB 15 (doFieldAddr 1 (tm 2))), (wB 16 (doLoad (tm 15))), (wB 17 (doFieldAddr 1 (tm 3))), (wB 18 (doLoad (tm 17))), (wB 19 (bin2 fGtr (tm 16) (tm 18))), (wB 4 (doMove (tm 19)))]) CC.ret)
noncomputable abbrev s72_4 : CC := (CC.seq s72_2 s72_3)
noncomputable abbrev b72 : CC := (CC.seq (CC.region [(wB 2 (doBox 34 (tm 0))), (wB 3 (doBox 34 (tm 1))), (wB 4 (doMove (O.c (V.b Bool.false))))]) s72_4)
theorem c72 : compFn Try.prog 72 = ⟨20, b72, [(Rs.tmp (slOf 4))]⟩ := by kernel_rfl
noncomputable abbrev s49_0 : CC := (CC.cond (tm 7) CC.skip (CC.exit 0))
noncomputable abbrev s49_1 : CC := (CC.seq (CC.region [(wB 4 (doMove (tm 3))), (wB 5 (doMove (tm 0))), (wB 6 (doLen (tm 5))), (wB 7 (bin2 fLss (tm 4) (tm 6)))]) s49_0)
noncomputable abbrev s49_2 : CC := (CC.seq (CC.region [(wB 2 (doMove (O.c (V.b Bool.false))))]) CC.ret)
noncomputable abbrev s49_3 : CC := (CC.cond (tm 20) s49_2 CC.skip)
noncomputable abbrev s49_4 : CC := (CC.seq (CC.draws [(uB 10 (doMove (tm 0))), (uB 11 (doMove (tm 3))), (uB 12 (bin2 fSub (tm 11) (oN 1))), (uB 13 (doIndexAddr 4 (tm 10) (tm 12))), (uB 14 (doLoadA 4 (tm 13))), (uB 15 (doMove (tm 0))), (uB 16 (doMove (tm 3))), (uB 17 (doIndexAddr 4 (tm 15) (tm 16))), (uB 18 (doLoadA 4 (tm 17))), (wB 19 (doCall 72 [(tm 14), (tm 18)])), (uB 20 (doNot (tm 19)))]) s49_3)
noncomputable abbrev s49_5 : CC := (CC.block 1 s49_4)
noncomputable abbrev s49_6 : CC := (CC.region [(wB 8 (doMove (tm 3))), (wB 9 (bin2 fAdd (tm 8) (oN 1))), (wB 3 (doMove (tm 9)))])
noncomputable abbrev s49_7 : CC := (CC.seq s49_5 s49_6)
noncomputable abbrev l49_0 : CC := (CC.seq s49_1 s49_7)
noncomputable abbrev s49_8 : CC := (CC.loop l49_0)
noncomputable abbrev s49_9 : CC := (CC.block 0 s49_8)
noncomputable abbrev s49_10 : CC := (CC.seq (CC.region [(wB 3 (doMove (oN 1)))]) s49_9)
noncomputable abbrev s49_11 : CC := (CC.seq (CC.region [(wB 2 (doMove (O.c (V.b Bool.true))))]) CC.ret)
noncomputable abbrev s49_12 : CC := (CC.seq s49_10 s49_11)
noncomputable abbrev b49 : CC := (CC.seq (CC.region [(wB 2 (doMove (O.c (V.b Bool.false))))]) s49_12)
theorem c49 : compFn Try.prog 49 = ⟨21, b49, [(Rs.tmp (slOf 2))]⟩ := by kernel_rfl
noncomputable abbrev s74_0 : CC := (CC.seq (CC.region [(wB 2 (doMove (O.c (V.s 0 0))))]) CC.ret)
noncomputable abbrev s74_1 : CC := (CC.cond (tm 6) s74_0 CC.skip)
noncomputable abbrev s74_2 : CC := (CC.seq (CC.region [(wB 4 (doLoadA 4 (tm 1))), (wB 5 (doCall 48 [(tm 4)])), (wB 6 (doNot (tm 5)))]) s74_1)
noncomputable abbrev s74_3 : CC := (CC.seq (CC.region [(wB 16 (doMove (tm 3))), (wB 17 (doBuildSlice 5 1 [(V.i IntKind.u8 (Int.ofNat 0))] [(Pt.mk 0 1 (O.c (V.i IntKind.u8 (Int.ofNat 1))))])), (wB 18 (doB2S (tm 17))), (wB 19 (doConcat (tm 16) (tm 18))), (wB 2 (doMove (tm 19)))]) CC.ret)
noncomputable abbrev s74_4 : CC := (CC.cond (tm 15) s74_3 CC.skip)
noncomputable abbrev s74_5 : CC := (CC.seq (CC.region [(wB 14 (doFieldAddr 2 (tm 1))), (wB 15 (doLoad (tm 14)))]) s74_4)
noncomputable abbrev s74_6 : CC := (CC.seq (CC.draws [(uB 20 (doMove (tm 3))), (uB 21 (doBuildSlice 5 1 [(V.i IntKind.u8 (Int.ofNat 0))] [(Pt.mk 0 1 (O.c (V.i IntKind.u8 (Int.ofNat 0))))])), (uB 22 (doB2S (tm 21))), (uB 23 (doConcat (tm 20) (tm 22))), (uB 24 (doFieldAddr 3 (tm 1))), (uB 25 (doLoad (tm 24))), (uB 26 (doCall 55 [(tm 25)])), (uB 27 (doConcat (tm 23) (tm 26))), (uB 2 (doMove (tm 27)))]) CC.ret)
noncomputable abbrev s74_7 : CC := (CC.seq s74_5 s74_6)
noncomputable abbrev s74_8 : CC := (CC.seq (CC.draws [(uB 7 (doFieldAddr 0 (tm 1))), (uB 8 (doLoad (tm 7))), (uB 9 (doCall 55 [(tm 8)])), (uB 10 (doFieldAddr 1 (tm 1))), (uB 11 (doLoad (tm 10))), (wB 12 (doCall 53 [(tm 11)])), (uB 13 (doConcat (tm 9) (tm 12))), (uB 3 (doMove (tm 13)))]) s74_7)
noncomputable abbrev s74_9 : CC := (CC.seq s74_2 s74_8)
noncomputable abbrev b74 : CC := (CC.seq (CC.region [(wB 1 (doBox 34 (tm 0))), (wB 2 (doMove (O.c (V.s 0 0))))]) s74_9)
theorem c74 : compFn Try.prog 74 = ⟨28, b74, [(Rs.tmp (slOf 2))]⟩ := by kernel_rfl
noncomputable abbrev s84_0 : CC := (CC.seq (CC.region [(wB 16 (doBuild [(V.s 0 0), (V.i IntKind.i64 (Int.ofNat 0)), (V.b Bool.false), (V.s 0 0)] [])), (wB 17 (doMove (tm 7))), (CO.mk G.none D.none Bool.true (CR.mk (doStore 4 (tm 2) (tm 16)))), (wB 3 (doMove (oN 0))), (wB 4 (doMove (tm 17)))]) CC.ret)
noncomputable abbrev s84_1 : CC := (CC.cond (tm 15) s84_0 CC.skip)
noncomputable abbrev s84_2 : CC := (CC.seq (CC.region [(wB 14 (doMove (tm 7))), (wB 15 (bin2 fNeq (tm 14) (oN 0)))]) s84_1)
noncomputable abbrev s84_3 : CC := (CC.seq (CC.region [(wB 21 (doBuild [(V.s 0 0), (V.i IntKind.i64 (Int.ofNat 0)), (V.b Bool.false), (V.s 0 0)] [])), (CO.mk G.none D.none Bool.true (CR.mk (doStore 4 (tm 2) (tm 21)))), (wB 3 (doMove (oN 0))), (wB 4 (doMove (oN 10)))]) CC.ret)
noncomputable abbrev s84_4 : CC := (CC.cond (tm 20) s84_3 CC.skip)
noncomputable abbrev s84_5 : CC := (CC.seq (CC.region [(wB 18 (doLoadA 4 (tm 5))), (wB 19 (doCall 48 [(tm 18)])), (wB 20 (doNot (tm 19)))]) s84_4)
noncomputable abbrev s84_6 : CC := (CC.seq (CC.region [(wB 22 (doLoadA 4 (tm 5))), (wB 23 (doMove (tm 6))), (CO.mk G.none D.none Bool.true (CR.mk (doStore 4 (tm 2) (tm 22)))), (wB 3 (doMove (tm 23))), (wB 4 (doMove (oN 0)))]) CC.ret)
noncomputable abbrev s84_7 : CC := (CC.seq s84_5 s84_6)
noncomputable abbrev s84_8 : CC := (CC.seq s84_2 s84_7)
noncomputable abbrev s84_9 : CC := (CC.seq (CC.region [(wB 9 (doMove (tm 0))), (wB 10 (doCall 85 [(tm 9)])), (wB 8 (doMove (tm 10))), (wB 11 (doExtract 0 (tm 8))), (wB 12 (doExtract 1 (tm 8))), (wB 13 (doExtract 2 (tm 8))), (wB 5 (doAlloc 34 [(V.s 0 0), (V.i IntKind.i64 (Int.ofNat 0)), (V.b Bool.false), (V.s 0 0)])), (CO.mk G.none D.none Bool.true (CR.mk (doStore 4 (tm 5) (tm 11)))), (wB 6 (doMove (tm 12))), (wB 7 (doMove (tm 13)))]) s84_8)
noncomputable abbrev b84 : CC := (CC.seq (CC.region [(wB 2 (doAlloc 34 [(V.s 0 0), (V.i IntKind.i64 (Int.ofNat 0)), (V.b Bool.false), (V.s 0 0)])), (wB 3 (doMove (oN 0))), (wB 4 (doMove (oN 0)))]) s84_9)
theorem c84 : compFn Try.prog 84 = ⟨24, b84, [(Rs.cellA (slOf 2) 4), (Rs.tmp (slOf 3)), (Rs.tmp (slOf 4))]⟩ := by kernel_rfl
noncomputable abbrev s68_0 : CC := (CC.seq (CC.region [(wB 16 (doBuild [(V.s 0 0), (V.i IntKind.i64 (Int.ofNat 0)), (V.b Bool.false), (V.s 0 0)] [])), (CO.mk G.none D.none Bool.true (CR.mk (doStore 4 (tm 6) (tm 16)))), (wB 7 (doMove (O.c (V.b Bool.false))))]) CC.ret)
noncomputable abbrev s68_1 : CC := (CC.cond (tm 15) s68_0 CC.skip)
noncomputable abbrev s68_2 : CC := (CC.seq (CC.region [(wB 13 (doMove (tm 0))), (wB 14 (doCall 49 [(tm 13)])), (wB 15 (doNot (tm 14)))]) s68_1)
noncomputable abbrev s68_3 : CC := (CC.cond (tm 23) CC.skip (CC.exit 0))
noncomputable abbrev s68_4 : CC := (CC.seq (CC.region [(wB 35 (doLoadA 4 (tm 12))), (CO.mk G.none D.none Bool.true (CR.mk (doStore 4 (tm 8) (tm 35)))), (wB 9 (doMove (O.c (V.b Bool.true))))]) (CC.exit 0))
noncomputable abbrev s68_5 : CC := (CC.cond (tm 30) s68_4 (CC.exit 0))
noncomputable abbrev s68_6 : CC := (CC.seq (CC.region [(wB 31 (doFieldAddr 0 (tm 12))), (wB 32 (doLoad (tm 31))), (wB 33 (doMove (tm 1))), (wB 34 (doSCmp eqS (tm 32) (tm 33))), (wB 30 (doMove (tm 34)))]) s68_5)
noncomputable abbrev s68_7 : CC := (CC.cond (tm 26) CC.skip s68_6)
noncomputable abbrev s68_8 : CC := (CC.seq (CC.region [(wB 27 (doLoadA 4 (tm 12))), (wB 28 (doLoadA 4 (tm 10))), (wB 29 (doCall 72 [(tm 27), (tm 28)])), (wB 26 (doMove (tm 29)))]) s68_7)
noncomputable abbrev s68_9 : CC := (CC.block 2 s68_8)
noncomputable abbrev s68_10 : CC := (CC.seq (CC.region [(wB 24 (doIndexAddr 4 (tm 20) (tm 22))), (wB 25 (doLoadA 4 (tm 24))), (wB 12 (doAlloc 34 [(V.s 0 0), (V.i IntKind.i64 (Int.ofNat 0)), (V.b Bool.false), (V.s 0 0)])), (CO.mk G.none D.none Bool.true (CR.mk (doStore 4 (tm 12) (tm 25))))]) s68_9)
noncomputable abbrev s68_11 : CC := (CC.block 1 s68_10)
noncomputable abbrev s68_12 : CC := (CC.region [(wB 36 (bin2 fAdd (tm 22) (oN 1))), (wB 22 (doMove (tm 36)))])
noncomputable abbrev s68_13 : CC := (CC.seq s68_11 s68_12)
noncomputable abbrev s68_14 : CC := (CC.seq s68_3 s68_13)
noncomputable abbrev l68_0 : CC := (CC.seq (CC.region [(wB 23 (bin2 fLss (tm 22) (tm 21)))]) s68_14)
noncomputable abbrev s68_15 : CC := (CC.loop l68_0)
noncomputable abbrev s68_16 : CC := (CC.block 0 s68_15)
noncomputable abbrev s68_17 : CC := (CC.seq (CC.region [(wB 20 (doMove (tm 0))), (wB 21 (doLen (tm 20))), (wB 22 (doMove (oN 0)))]) s68_16)
noncomputable abbrev s68_18 : CC := (CC.seq (CC.region [(wB 37 (doLoadA 4 (tm 8))), (wB 38 (doMove (tm 9))), (CO.mk G.none D.none Bool.true (CR.mk (doStore 4 (tm 6) (tm 37)))), (wB 7 (doMove (tm 38)))]) CC.ret)
noncomputable abbrev s68_19 : CC := (CC.seq s68_17 s68_18)
noncomputable abbrev s68_20 : CC := (CC.seq CC.skip s68_19)
noncomputable abbrev s68_21 : CC := (CC.seq (CC.region [(wB 17 (doMove (tm 1))), (wB 18 (doMove (tm 2))), (wB 19 (doBuild [(V.s 0 0), (V.i IntKind.i64 (Int.ofNat 0)), (V.b Bool.false), (V.s 0 0)] [(Pt.mk 0 1 (tm 17)), (Pt.mk 1 1 (tm 18))])), (wB 10 (doAlloc 34 [(V.s 0 0), (V.i IntKind.i64 (Int.ofNat 0)), (V.b Bool.false), (V.s 0 0)])), (CO.mk G.none D.none Bool.true (CR.mk (doStore 4 (tm 10) (tm 19))))]) s68_20)
noncomputable abbrev s68_22 : CC := (CC.seq (CC.region [(wB 9 (doMove (O.c (V.b Bool.false))))]) s68_21)
noncomputable abbrev s68_23 : CC := (CC.seq (CC.region [(wB 8 (doAlloc 34 [(V.s 0 0), (V.i IntKind.i64 (Int.ofNat 0)), (V.b Bool.false), (V.s 0 0)]))]) s68_22)
noncomputable abbrev s68_24 : CC := (CC.seq s68_2 s68_23)
noncomputable abbrev b68 : CC := (CC.seq (CC.region [(wB 6 (doAlloc 34 [(V.s 0 0), (V.i IntKind.i64 (Int.ofNat 0)), (V.b Bool.false), (V.s 0 0)])), (wB 7 (doMove (O.c (V.b Bool.false))))]) s68_24)
theorem c68 : compFn Try.prog 68 = ⟨39, b68, [(Rs.cellA (slOf 6) 4), (Rs.tmp (slOf 7))]⟩ := by kernel_rfl
noncomputable abbrev s71_0 : CC := (CC.seq (CC.region [(wB 2 (doMove (O.c (V.b Bool.false))))]) CC.ret)
noncomputable abbrev s71_1 : CC := (CC.cond (tm 12) s71_0 CC.skip)
noncomputable abbrev s71_2 : CC := (CC.seq (CC.region [(wB 3 (doFieldAddr 0 (tm 1))), (wB 4 (doLoad (tm 3))), (wB 5 (doLenS (tm 4))), (wB 6 (bin2 fLss (tm 5) (oN 1))), (wB 7 (doMove (tm 6))), (wG 7 false 8 (doFieldAddr 0 (tm 1))), (wG 7 false 9 (doLoad (tm 8))), (wG 7 false 10 (doLenS (tm 9))), (wG 7 false 11 (bin2 fGtr (tm 10) (oN 13))), (wB 12 (doPick (tm 7) (O.c (V.b Bool.true)) (tm 11)))]) s71_1)
noncomputable abbrev s71_3 : CC := (CC.seq (CC.region [(wB 15 (doFieldAddr 2 (tm 1))), (wB 16 (doLoad (tm 15))), (wB 17 (doSCmp eqS (tm 16) (O.c (V.s 0 0)))), (wB 2 (doMove (tm 17)))]) CC.ret)
noncomputable abbrev s71_4 : CC := (CC.cond (tm 14) s71_3 CC.skip)
noncomputable abbrev s71_5 : CC := (CC.seq (CC.region [(wB 13 (doFieldAddr 1 (tm 1))), (wB 14 (doLoad (tm 13)))]) s71_4)
noncomputable abbrev s71_6 : CC := (CC.seq (CC.region [(wB 18 (doFieldAddr 2 (tm 1))), (wB 19 (doLoad (tm 18))), (wB 20 (doLenS (tm 19))), (wB 21 (bin2 fLeq (tm 20) (oN 24))), (wB 2 (doMove (tm 21)))]) CC.ret)
noncomputable abbrev s71_7 : CC := (CC.seq s71_5 s71_6)
noncomputable abbrev s71_8 : CC := (CC.seq s71_2 s71_7)
noncomputable abbrev b71 : CC := (CC.seq (CC.region [(wB 1 (doBox 108 (tm 0))), (wB 2 (doMove (O.c (V.b Bool.false))))]) s71_8)
theorem c71 : compFn Try.prog 71 = ⟨22, b71, [(Rs.tmp (slOf 2))]⟩ := by kernel_rfl
noncomputable abbrev s85_0 : CC := (CC.seq (CC.region [(wB 22 (doBuild [(V.s 0 0), (V.i IntKind.i64 (Int.ofNat 0)), (V.b Bool.false), (V.s 0 0)] [])), (wB 23 (doMove (tm 7))), (CO.mk G.none D.none Bool.true (CR.mk (doStore 4 (tm 2) (tm 22)))), (wB 3 (doMove (oN 0))), (wB 4 (doMove (tm 23)))]) CC.ret)
noncomputable abbrev s85_1 : CC := (CC.cond (tm 21) s85_0 CC.skip)
noncomputable abbrev s85_2 : CC := (CC.seq (CC.region [(wB 20 (doMove (tm 7))), (wB 21 (bin2 fNeq (tm 20) (oN 0)))]) s85_1)
noncomputable abbrev s85_3 : CC := (CC.seq (CC.region [(wB 34 (doBuild [(V.s 0 0), (V.i IntKind.i64 (Int.ofNat 0)), (V.b Bool.false), (V.s 0 0)] [])), (wB 35 (doMove (tm 7))), (CO.mk G.none D.none Bool.true (CR.mk (doStore 4 (tm 2) (tm 34)))), (wB 3 (doMove (oN 0))), (wB 4 (doMove (tm 35)))]) CC.ret)
noncomputable abbrev s85_4 : CC := (CC.cond (tm 33) s85_3 CC.skip)
noncomputable abbrev s85_5 : CC := (CC.seq (CC.region [(wB 32 (doMove (tm 7))), (wB 33 (bin2 fNeq (tm 32) (oN 0)))]) s85_4)
noncomputable abbrev s85_6 : CC := (CC.seq (CC.region [(wB 43 (doBuild [(V.s 0 0), (V.i IntKind.i64 (Int.ofNat 0)), (V.b Bool.false), (V.s 0 0)] [])), (CO.mk G.none D.none Bool.true (CR.mk (doStore 4 (tm 2) (tm 43)))), (wB 3 (doMove (oN 0))), (wB 4 (doMove (oN 12)))]) CC.ret)
noncomputable abbrev s85_7 : CC := (CC.cond (tm 42) s85_6 CC.skip)
noncomputable abbrev s85_8 : CC := (CC.seq (CC.region [(wB 39 (doMove (tm 6))), (wB 40 (doMove (tm 0))), (wB 41 (doLenS (tm 40))), (wB 42 (bin2 fEql (tm 39) (tm 41)))]) s85_7)
noncomputable abbrev s85_9 : CC := (CC.seq (CC.region [(wB 63 (doBuild [(V.s 0 0), (V.i IntKind.i64 (Int.ofNat 0)), (V.b Bool.false), (V.s 0 0)] [])), (wB 64 (doMove (tm 13))), (CO.mk G.none D.none Bool.true (CR.mk (doStore 4 (tm 2) (tm 63)))), (wB 3 (doMove (oN 0))), (wB 4 (doMove (tm 64)))]) CC.ret)
noncomputable abbrev s85_10 : CC := (CC.cond (tm 62) s85_9 CC.skip)
noncomputable abbrev s85_11 : CC := (CC.seq (CC.region [(wB 61 (doMove (tm 13))), (wB 62 (bin2 fNeq (tm 61) (oN 0)))]) s85_10)
noncomputable abbrev s85_12 : CC := (CC.seq (CC.region [(wB 65 (doMove (tm 5))), (wB 66 (doMove (tm 8))), (wB 67 (doMove (tm 11))), (wB 68 (doBuild [(V.s 0 0), (V.i IntKind.i64 (Int.ofNat 0)), (V.b Bool.false), (V.s 0 0)] [(Pt.mk 0 1 (tm 65)), (Pt.mk 1 1 (tm 66)), (Pt.mk 3 1 (tm 67))])), (wB 69 (doMove (tm 6))), (wB 70 (doMove (tm 12))), (wB 71 (bin2 fAdd (tm 69) (tm 70))), (CO.mk G.none D.none Bool.true (CR.mk (doStore 4 (tm 2) (tm 68)))), (wB 3 (doMove (tm 71))), (wB 4 (doMove (oN 0)))]) CC.ret)
noncomputable abbrev s85_13 : CC := (CC.seq s85_11 s85_12)
noncomputable abbrev s85_14 : CC := (CC.seq (CC.region [(wB 54 (doMove (tm 0))), (wB 55 (doMove (tm 6))), (wB 56 (doSSlice (tm 54) (some (tm 55)) none)), (wB 57 (doCall 82 [(tm 56)])), (wB 53 (doMove (tm 57))), (wB 58 (doExtract 0 (tm 53))), (wB 59 (doExtract 1 (tm 53))), (wB 60 (doExtract 2 (tm 53))), (wB 11 (doMove (tm 58))), (wB 12 (doMove (tm 59))), (wB 13 (doMove (tm 60)))]) s85_13)
noncomputable abbrev s85_15 : CC := (CC.seq (CC.region [(wB 74 (doMove (tm 5))), (wB 75 (doMove (tm 8))), (wB 76 (doBuild [(V.s 0 0), (V.i IntKind.i64 (Int.ofNat 0)), (V.b Bool.false), (V.s 0 0)] [(Pt.mk 0 1 (tm 74)), (Pt.mk 1 1 (tm 75)), (Pt.mk 2 1 (O.c (V.b Bool.true)))])), (wB 77 (doMove (tm 6))), (CO.mk G.none D.none Bool.true (CR.mk (doStore 4 (tm 2) (tm 76)))), (wB 3 (doMove (tm 77))), (wB 4 (doMove (oN 0)))]) CC.ret)
noncomputable abbrev s85_16 : CC := (CC.seq (CC.region [(wB 50 (doBuild [(V.s 0 0), (V.i IntKind.i64 (Int.ofNat 0)), (V.b Bool.false), (V.s 0 0)] [])), (CO.mk G.none D.none Bool.true (CR.mk (doStore 4 (tm 2) (tm 50)))), (wB 3 (doMove (oN 0))), (wB 4 (doMove (oN 10)))]) CC.ret)
noncomputable abbrev s85_17 : CC := (CC.cond (tm 72) s85_15 s85_16)
noncomputable abbrev s85_18 : CC := (CC.seq (CC.region [(wB 73 (bin2 fEql (tm 49) (O.c (V.i IntKind.u8 (Int.ofNat 1))))), (wB 72 (doMove (tm 73)))]) s85_17)
noncomputable abbrev s85_19 : CC := (CC.cond (tm 51) s85_14 s85_18)
noncomputable abbrev s85_20 : CC := (CC.seq (CC.region [(wB 52 (bin2 fEql (tm 49) (O.c (V.i IntKind.u8 (Int.ofNat 0))))), (wB 51 (doMove (tm 52)))]) s85_19)
noncomputable abbrev s85_21 : CC := (CC.block 0 s85_20)
noncomputable abbrev s85_22 : CC := (CC.seq (CC.region [(wB 49 (doMove (tm 10)))]) s85_21)
noncomputable abbrev s85_23 : CC := (CC.seq (CC.region [(wB 47 (doMove (tm 6))), (wB 48 (bin2 fAdd (tm 47) (oN 1))), (wB 6 (doMove (tm 48)))]) s85_22)
noncomputable abbrev s85_24 : CC := (CC.seq (CC.region [(wB 44 (doMove (tm 0))), (wB 45 (doMove (tm 6))), (wB 46 (doSIndex (tm 44) (tm 45))), (wB 10 (doMove (tm 46)))]) s85_23)
noncomputable abbrev s85_25 : CC := (CC.seq s85_8 s85_24)
noncomputable abbrev s85_26 : CC := (CC.seq (CC.region [(wB 36 (doMove (tm 6))), (wB 37 (doMove (tm 9))), (wB 38 (bin2 fAdd (tm 36) (tm 37))), (wB 6 (doMove (tm 38)))]) s85_25)
noncomputable abbrev s85_27 : CC := (CC.seq s85_5 s85_26)
noncomputable abbrev s85_28 : CC := (CC.seq (CC.region [(wB 25 (doMove (tm 0))), (wB 26 (doMove (tm 6))), (wB 27 (doSSlice (tm 25) (some (tm 26)) none)), (wB 28 (doCall 64 [(tm 27)])), (wB 24 (doMove (tm 28))), (wB 29 (doExtract 0 (tm 24))), (wB 30 (doExtract 1 (tm 24))), (wB 31 (doExtract 2 (tm 24))), (wB 8 (doMove (tm 29))), (wB 9 (doMove (tm 30))), (wB 7 (doMove (tm 31)))]) s85_27)
noncomputable abbrev s85_29 : CC := (CC.seq s85_2 s85_28)
noncomputable abbrev s85_30 : CC := (CC.seq (CC.region [(wB 15 (doMove (tm 0))), (wB 16 (doCall 82 [(tm 15)])), (wB 14 (doMove (tm 16))), (wB 17 (doExtract 0 (tm 14))), (wB 18 (doExtract 1 (tm 14))), (wB 19 (doExtract 2 (tm 14))), (wB 5 (doMove (tm 17))), (wB 6 (doMove (tm 18))), (wB 7 (doMove (tm 19)))]) s85_29)
noncomputable abbrev b85 : CC := (CC.seq (CC.region [(wB 2 (doAlloc 34 [(V.s 0 0), (V.i IntKind.i64 (Int.ofNat 0)), (V.b Bool.false), (V.s 0 0)])), (wB 3 (doMove (oN 0))), (wB 4 (doMove (oN 0)))]) s85_30)
theorem c85 : compFn Try.prog 85 = ⟨78, b85, [(Rs.cellA (slOf 2) 4), (Rs.tmp (slOf 3)), (Rs.tmp (slOf 4))]⟩ := by kernel_rfl
end Go.Proofs.Ytiingkpdodbldaa

set_option maxRecDepth 1000000
set_option linter.all false
namespace Go.Proofs.Ytiingkpdodbldaa
open Go Go.Ev
noncomputable abbrev s53_0 : CC := (CC.cond (tm 7) CC.skip (CC.exit 0))
noncomputable abbrev s53_1 : CC := (CC.seq (CC.region [(wB 6 (doMove (tm 0))), (wB 7 (bin2 fGtr (tm 6) (oN 0)))]) s53_0)
noncomputable abbrev s53_2 : CC := (CC.region [(wB 12 (doMove (tm 4))), (wB 13 (doMove (tm 0))), (wB 14 (doConv IntKind.u8 (tm 13))), (wB 15 (doIndexAddrArr 9 1 (tm 3) (tm 12))), (CO.mk G.none D.none Bool.true (CR.mk (doStore 1 (tm 15) (tm 14))))])
noncomputable abbrev s53_3 : CC := (CC.seq (CC.region [(wB 10 (doMove (tm 4))), (wB 11 (bin2 fSub (tm 10) (oN 1))), (wB 4 (doMove (tm 11)))]) s53_2)
noncomputable abbrev s53_4 : CC := (CC.block 1 s53_3)
noncomputable abbrev s53_5 : CC := (CC.region [(wB 8 (doMove (tm 0))), (wB 9 (doShift shrF (tm 8) (O.c (V.i IntKind.u64 (Int.ofNat 8))))), (wB 0 (doMove (tm 9)))])
noncomputable abbrev s53_6 : CC := (CC.seq s53_4 s53_5)
noncomputable abbrev l53_0 : CC := (CC.seq s53_1 s53_6)
noncomputable abbrev s53_7 : CC := (CC.loop l53_0)
noncomputable abbrev s53_8 : CC := (CC.block 0 s53_7)
noncomputable abbrev s53_9 : CC := (CC.seq (CC.region [(wB 24 (doMove (tm 4))), (wB 25 (doSliceArr 9 1 (tm 3) (some (tm 24)) none)), (wB 26 (doB2S (tm 25))), (wB 2 (doMove (tm 26)))]) CC.ret)
noncomputable abbrev s53_10 : CC := (CC.seq (CC.region [(wB 20 (doMove (tm 4))), (wB 21 (doMove (tm 5))), (wB 22 (doConv IntKind.u8 (tm 21))), (wB 23 (doIndexAddrArr 9 1 (tm 3) (tm 20))), (CO.mk G.none D.none Bool.true (CR.mk (doStore 1 (tm 23) (tm 22))))]) s53_9)
noncomputable abbrev s53_11 : CC := (CC.seq (CC.region [(wB 18 (doMove (tm 4))), (wB 19 (bin2 fSub (tm 18) (oN 1))), (wB 4 (doMove (tm 19)))]) s53_10)
noncomputable abbrev s53_12 : CC := (CC.seq (CC.region [(wB 16 (doMove (tm 4))), (wB 17 (bin2 fSub (oN 9) (tm 16))), (wB 5 (doMove (tm 17)))]) s53_11)
noncomputable abbrev s53_13 : CC := (CC.seq s53_8 s53_12)
noncomputable abbrev s53_14 : CC := (CC.seq (CC.region [(wB 4 (doMove (oN 9)))]) s53_13)
noncomputable abbrev s53_15 : CC := (CC.seq (CC.region [(wB 3 (doAlloc 111 [(V.i IntKind.u8 (Int.ofNat 0)), (V.i IntKind.u8 (Int.ofNat 0)), (V.i IntKind.u8 (Int.ofNat 0)), (V.i IntKind.u8 (Int.ofNat 0)), (V.i IntKind.u8 (Int.ofNat 0)), (V.i IntKind.u8 (Int.ofNat 0)), (V.i IntKind.u8 (Int.ofNat 0)), (V.i IntKind.u8 (Int.ofNat 0)), (V.i IntKind.u8 (Int.ofNat 0))]))]) s53_14)
noncomputable abbrev b53 : CC := (CC.seq (CC.region [(wB 2 (doMove (O.c (V.s 0 0))))]) s53_15)
theorem c53 : compFn Try.prog 53 = ⟨27, b53, [(Rs.tmp (slOf 2))]⟩ := by kernel_rfl
noncomputable abbrev s64_0 : CC := (CC.seq (CC.region [(wB 2 (doMove (oN 0))), (wB 3 (doMove (oN 0))), (wB 4 (doMove (oN 12)))]) CC.ret)
noncomputable abbrev s64_1 : CC := (CC.cond (tm 10) s64_0 CC.skip)
noncomputable abbrev s64_2 : CC := (CC.seq (CC.region [(wB 9 (doMove (tm 0))), (wB 10 (doSCmp eqS (tm 9) (O.c (V.s 0 0))))]) s64_1)
noncomputable abbrev s64_3 : CC := (CC.seq (CC.region [(wB 2 (doMove (oN 0))), (wB 3 (doMove (oN 0))), (wB 4 (doMove (oN 10)))]) CC.ret)
noncomputable abbrev s64_4 : CC := (CC.cond (tm 15) s64_3 CC.skip)
noncomputable abbrev s64_5 : CC := (CC.seq (CC.region [(wB 14 (doMove (tm 5))), (wB 15 (bin2 fGtr (tm 14) (oN 8)))]) s64_4)
noncomputable abbrev s64_6 : CC := (CC.seq (CC.region [(wB 2 (doMove (oN 0))), (wB 3 (doMove (oN 0))), (wB 4 (doMove (oN 12)))]) CC.ret)
noncomputable abbrev s64_7 : CC := (CC.cond (tm 21) s64_6 CC.skip)
noncomputable abbrev s64_8 : CC := (CC.seq (CC.region [(wB 18 (doMove (tm 6))), (wB 19 (doMove (tm 0))), (wB 20 (doLenS (tm 19))), (wB 21 (bin2 fGtr (tm 18) (tm 20)))]) s64_7)
noncomputable abbrev s64_9 : CC := (CC.seq (CC.region [(wB 2 (doMove (oN 0))), (wB 3 (doMove (oN 0))), (wB 4 (doMove (oN 10)))]) CC.ret)
noncomputable abbrev s64_10 : CC := (CC.cond (tm 30) s64_9 CC.skip)
noncomputable abbrev s64_11 : CC := (CC.seq (CC.region [(wB 29 (doMove (tm 8))), (wB 30 (doNot (tm 29)))]) s64_10)
noncomputable abbrev s64_12 : CC := (CC.seq (CC.region [(wB 31 (doMove (tm 7))), (wB 32 (doMove (tm 6))), (wB 2 (doMove (tm 31))), (wB 3 (doMove (tm 32))), (wB 4 (doMove (oN 0)))]) CC.ret)
noncomputable abbrev s64_13 : CC := (CC.seq s64_11 s64_12)
noncomputable abbrev s64_14 : CC := (CC.seq (CC.region [(wB 23 (doMove (tm 0))), (wB 24 (doMove (tm 6))), (wB 25 (doSSlice (tm 23) (some (oN 1)) (some (tm 24)))), (wB 26 (doCall 79 [(tm 25)])), (wB 22 (doMove (tm 26))), (wB 27 (doExtract 0 (tm 22))), (wB 28 (doExtract 1 (tm 22))), (wB 7 (doMove (tm 27))), (wB 8 (doMove (tm 28)))]) s64_13)
noncomputable abbrev s64_15 : CC := (CC.seq s64_8 s64_14)
noncomputable abbrev s64_16 : CC := (CC.seq (CC.region [(wB 16 (doMove (tm 5))), (wB 17 (bin2 fAdd (oN 1) (tm 16))), (wB 6 (doMove (tm 17)))]) s64_15)
noncomputable abbrev s64_17 : CC := (CC.seq s64_5 s64_16)
noncomputable abbrev s64_18 : CC := (CC.seq (CC.region [(wB 11 (doMove (tm 0))), (wB 12 (doSIndex (tm 11) (oN 0))), (wB 13 (doConv IntKind.i64 (tm 12))), (wB 5 (doMove (tm 13)))]) s64_17)
noncomputable abbrev s64_19 : CC := (CC.seq s64_2 s64_18)
noncomputable abbrev b64 : CC := (CC.seq (CC.region [(wB 2 (doMove (oN 0))), (wB 3 (doMove (oN 0))), (wB 4 (doMove (oN 0)))]) s64_19)
theorem c64 : compFn Try.prog 64 = ⟨33, b64, [(Rs.tmp (slOf 2)), (Rs.tmp (slOf 3)), (Rs.tmp (slOf 4))]⟩ := by kernel_rfl
noncomputable abbrev s79_0 : CC := (CC.cond (tm 10) CC.skip (CC.exit 0))
noncomputable abbrev s79_1 : CC := (CC.seq (CC.region [(wB 7 (doMove (tm 5))), (wB 8 (doMove (tm 0))), (wB 9 (doLenS (tm 8))), (wB 10 (bin2 fLss (tm 7) (tm 9)))]) s79_0)
noncomputable abbrev s79_2 : CC := (CC.cond (tm 22) (CC.exit 0) CC.skip)
noncomputable abbrev s79_3 : CC := (CC.seq (CC.region [(wB 23 (doMove (tm 4))), (wB 24 (bin2 fGtr (tm 23) (oN 36028797018963967))), (wB 22 (doMove (tm 24)))]) s79_2)
noncomputable abbrev s79_4 : CC := (CC.cond (tm 15) (CC.exit 0) s79_3)
noncomputable abbrev s79_5 : CC := (CC.seq (CC.region [(wB 16 (doMove (tm 5))), (wB 17 (bin2 fEql (tm 16) (oN 0))), (wB 18 (doMove (tm 17))), (wG 18 true 19 (doMove (tm 6))), (wG 18 true 20 (bin2 fEql (tm 19) (oN 0))), (wB 21 (doPick (tm 18) (tm 20) (O.c (V.b Bool.false)))), (wB 15 (doMove (tm 21)))]) s79_4)
noncomputable abbrev s79_6 : CC := (CC.block 2 s79_5)
noncomputable abbrev s79_7 : CC := (CC.region [(wB 29 (doMove (tm 5))), (wB 30 (bin2 fAdd (tm 29) (oN 1))), (wB 5 (doMove (tm 30)))])
noncomputable abbrev s79_8 : CC := (CC.seq (CC.region [(wB 25 (doMove (tm 4))), (wB 26 (doShift shlF (tm 25) (O.c (V.i IntKind.u64 (Int.ofNat 8))))), (wB 27 (doMove (tm 6))), (wB 28 (bin2 fOr (tm 26) (tm 27))), (wB 4 (doMove (tm 28)))]) s79_7)
noncomputable abbrev s79_9 : CC := (CC.seq s79_6 s79_8)
noncomputable abbrev s79_10 : CC := (CC.seq (CC.region [(wB 11 (doMove (tm 0))), (wB 12 (doMove (tm 5))), (wB 13 (doSIndex (tm 11) (tm 12))), (wB 14 (doConv IntKind.i64 (tm 13))), (wB 6 (doMove (tm 14)))]) s79_9)
noncomputable abbrev s79_11 : CC := (CC.block 1 s79_10)
noncomputable abbrev l79_0 : CC := (CC.seq s79_1 s79_11)
noncomputable abbrev s79_12 : CC := (CC.loop l79_0)
noncomputable abbrev s79_13 : CC := (CC.block 0 s79_12)
noncomputable abbrev s79_14 : CC := (CC.seq (CC.region [(wB 2 (doMove (oN 0))), (wB 3 (doMove (O.c (V.b Bool.false))))]) CC.ret)
noncomputable abbrev s79_15 : CC := (CC.cond (tm 34) s79_14 CC.skip)
noncomputable abbrev s79_16 : CC := (CC.seq (CC.region [(wB 31 (doMove (tm 5))), (wB 32 (doMove (tm 0))), (wB 33 (doLenS (tm 32))), (wB 34 (bin2 fLss (tm 31) (tm 33)))]) s79_15)
noncomputable abbrev s79_17 : CC := (CC.seq (CC.region [(wB 35 (doMove (tm 4))), (wB 2 (doMove (tm 35))), (wB 3 (doMove (O.c (V.b Bool.true))))]) CC.ret)
noncomputable abbrev s79_18 : CC := (CC.seq s79_16 s79_17)
noncomputable abbrev s79_19 : CC := (CC.seq s79_13 s79_18)
noncomputable abbrev s79_20 : CC := (CC.seq CC.skip s79_19)
noncomputable abbrev s79_21 : CC := (CC.seq (CC.region [(wB 4 (doMove (oN 0))), (wB 5 (doMove (oN 0)))]) s79_20)
noncomputable abbrev b79 : CC := (CC.seq (CC.region [(wB 2 (doMove (oN 0))), (wB 3 (doMove (O.c (V.b Bool.false))))]) s79_21)
theorem c79 : compFn Try.prog 79 = ⟨36, b79, [(Rs.tmp (slOf 2)), (Rs.tmp (slOf 3))]⟩ := by kernel_rfl
noncomputable abbrev s55_0 : CC := (CC.seq (CC.region [(wB 3 (doMove (tm 0))), (wB 4 (doLenS (tm 3))), (wB 5 (doCall 53 [(tm 4)])), (wB 6 (doMove (tm 0))), (wB 7 (doConcat (tm 5) (tm 6))), (wB 2 (doMove (tm 7)))]) CC.ret)
noncomputable abbrev b55 : CC := (CC.seq (CC.region [(wB 2 (doMove (O.c (V.s 0 0))))]) s55_0)
theorem c55 : compFn Try.prog 55 = ⟨8, b55, [(Rs.tmp (slOf 2))]⟩ := by kernel_rfl
noncomputable abbrev s82_0 : CC := (CC.seq (CC.region [(wB 17 (doMove (tm 7))), (wB 2 (doMove (O.c (V.s 0 0)))), (wB 3 (doMove (oN 0))), (wB 4 (doMove (tm 17)))]) CC.ret)
noncomputable abbrev s82_1 : CC := (CC.cond (tm 16) s82_0 CC.skip)
noncomputable abbrev s82_2 : CC := (CC.seq (CC.region [(wB 15 (doMove (tm 7))), (wB 16 (bin2 fNeq (tm 15) (oN 0)))]) s82_1)
noncomputable abbrev s82_3 : CC := (CC.seq (CC.region [(wB 2 (doMove (O.c (V.s 0 0)))), (wB 3 (doMove (oN 0))), (wB 4 (doMove (oN 12)))]) CC.ret)
noncomputable abbrev s82_4 : CC := (CC.cond (tm 24) s82_3 CC.skip)
noncomputable abbrev s82_5 : CC := (CC.seq (CC.region [(wB 21 (doMove (tm 5))), (wB 22 (doMove (tm 8))), (wB 23 (doLenS (tm 22))), (wB 24 (bin2 fGtr (tm 21) (tm 23)))]) s82_4)
noncomputable abbrev s82_6 : CC := (CC.seq (CC.region [(wB 25 (doMove (tm 8))), (wB 26 (doMove (tm 5))), (wB 27 (doSSlice (tm 25) none (some (tm 26)))), (wB 28 (doMove (tm 6))), (wB 29 (doMove (tm 5))), (wB 30 (bin2 fAdd (tm 28) (tm 29))), (wB 2 (doMove (tm 27))), (wB 3 (doMove (tm 30))), (wB 4 (doMove (oN 0)))]) CC.ret)
noncomputable abbrev s82_7 : CC := (CC.seq s82_5 s82_6)
noncomputable abbrev s82_8 : CC := (CC.seq (CC.region [(wB 18 (doMove (tm 0))), (wB 19 (doMove (tm 6))), (wB 20 (doSSlice (tm 18) (some (tm 19)) none)), (wB 8 (doMove (tm 20)))]) s82_7)
noncomputable abbrev s82_9 : CC := (CC.seq s82_2 s82_8)
noncomputable abbrev s82_10 : CC := (CC.seq (CC.region [(wB 10 (doMove (tm 0))), (wB 11 (doCall 64 [(tm 10)])), (wB 9 (doMove (tm 11))), (wB 12 (doExtract 0 (tm 9))), (wB 13 (doExtract 1 (tm 9))), (wB 14 (doExtract 2 (tm 9))), (wB 5 (doMove (tm 12))), (wB 6 (doMove (tm 13))), (wB 7 (doMove (tm 14)))]) s82_9)
noncomputable abbrev b82 : CC := (CC.seq (CC.region [(wB 2 (doMove (O.c (V.s 0 0)))), (wB 3 (doMove (oN 0))), (wB 4 (doMove (oN 0)))]) s82_10)
theorem c82 : compFn Try.prog 82 = ⟨31, b82, [(Rs.tmp (slOf 2)), (Rs.tmp (slOf 3)), (Rs.tmp (slOf 4))]⟩ := by kernel_rfl
end Go.Proofs.Ytiingkpdodbldaa

namespace Go.Proofs.Ytiingkpdodbldaa
open Go Go.Ev
theorem hmix : Try.prog.follows .mixedOrders = true := by kernel_rfl
open Go.Ev in
instance {nt : Nat} {t : F} {h : H} {K : X → F → H → Prop} {l : List CO} : St (Ok Try.prog nt (.draws l) t h K) (DO Try.prog l t h (K .normal)) := ⟨Ok.dw hmix⟩
end Go.Proofs.Ytiingkpdodbldaa

set_option maxRecDepth 100000
set_option maxHeartbeats 8000000
set_option linter.all false
namespace Go.Proofs.Ytiingkpdodbldaa
open Go Go.Ev
theorem or_add {n d : Nat} (h : d < 256) : n * 2 ^ 8 ||| d = n * 256 + d := by
  have := Nat.two_pow_add_eq_or_of_lt (i := 8) (b := d) (by omega) n
  rw [Nat.mul_comm n, ← this]
theorem pk_ge (l : List UInt8) (i : Nat) (h : i ≤ l.length) : pk (l.take i) * 256 ^ (l.length - i) ≤ pk l := by
  have e := pk_append (l.take i) (l.drop i)
  rw [List.take_append_drop, List.length_drop] at e
  omega
theorem pk_bad {l : List UInt8} {i : Nat} (h8 : l.length ≤ 8) (hi : i < l.length) (h : 36028797018963967 < pk (l.take i)) : 9223372036854775808 ≤ pk l := by
  have h1 := pk_ge l i (by omega)
  have h2 : 256 ≤ 256 ^ (l.length - i) := by
    have := Nat.pow_le_pow_right (n := 256) (by omega) (show 1 ≤ l.length - i by omega)
    simpa using this
  have h3 := Nat.mul_le_mul (show 36028797018963968 ≤ pk (l.take i) by omega) h2
  omega
theorem head_zero {l : List UInt8} (h : (l.getD 0 0).toNat = 0) (h0 : 0 < l.length) : l.head? = some 0 := by
  cases l with
  | nil => simp at h0
  | cons c r => have : c = 0 := UInt8.toNat_inj.1 h
                rw [this]; rfl
theorem head_pos {l : List UInt8} (h : ¬ (l.getD 0 0).toNat = 0) : l.head? ≠ some 0 := by
  cases l with
  | nil => simp
  | cons c r => intro h0; have : c = 0 := by simpa using h0
                subst this; exact h rfl
theorem number_ok {h : H} {l : List UInt8} (h8 : l.length ≤ 8) : FnOk Try.prog 79 [sv l] h fun y h' => y = numR l ∧ h' = h := by
  refine fn_go c79 (by intro hb; cases hb) (by simp) (by simp) fun Q hQ => ?_
  simp only [slotsF, Nat.reduceAdd]
  repeat' (first
    | refine St.h ?_
    | simp (disch := first | omega | (simp only [lnv]; omega)) only [wlk, ↓get_put', ↓reduceIte, seval]
    | (with_reducible (first | apply cd_split | apply gd_split)) <;> (intro hc; (try simp only [hcn] at hc); (try simp only [hc]); (try simp only [hcl] at hc); try omega))
  refine Ok.lp (fun m t g => ∃ i : Nat, i ≤ l.length ∧ m = l.length - i ∧ g = h ∧ get 0 t = sv l ∧ get 4 t = .i .i64 ((pk (l.take i) : Nat) : Int) ∧ get 5 t = .i .i64 (i : Int) ∧ (0 < i → l.head? ≠ some 0) ∧ pk (l.take i) ≤ 9223372036854775807) l.length ?_ ?_
  · simp (disch := first | omega | (simp only [lnv]; omega)) only [wlk, ↓get_put', ↓reduceIte, seval]
    exact ⟨0, by omega, rfl, trivial, trivial, rfl, rfl, fun h => absurd h (by omega), by simp [pk]⟩
  · rintro I hI m t g ⟨i, hi', rfl, rfl, f0, f4, f5, hF, hV⟩
    have hgd := (l.getD i 0).toNat_lt
    repeat' (first
      | refine St.h ?_
      | simp (disch := first | omega | (simp only [lnv]; omega)) only [wlk, ↓get_put', ↓reduceIte, seval, *]
      | (with_reducible (first | apply cd_split | apply gd_split)) <;> (intro hc; (try simp only [hcn] at hc); (try simp only [hc]); (try simp only [hcl] at hc); try omega))
    · obtain rfl : i = 0 := by omega
      exact ⟨(numR_bad (.inl (head_zero (by omega) (by omega)))).symm, trivial⟩
    · exact ⟨(numR_bad (.inr (pk_bad h8 (by omega) (by omega : 36028797018963967 < pk (l.take i))))).symm, trivial⟩
    · obtain rfl : i = 0 := by omega
      have n1 : ((pk (l.take 0) : Int) * 256).toNat ||| (l.getD 0 0).toNat = pk (l.take 1) := by
        rw [show ((pk (l.take 0) : Int) * 256).toNat = pk (l.take 0) * 2 ^ 8 by omega, or_add (by omega), pk_take (by omega)]
      have n2 : pk (l.take 1) ≤ 9223372036854775807 := by rw [pk_take (by omega)]; omega
      refine lp_next hI (l.length - (0 + 1)) (by omega) ⟨0 + 1, by omega, rfl, rfl, ?_, ?_, ?_, fun _ => head_pos (by omega), n2⟩
      · simp (disch := first | omega | (simp only [lnv]; omega)) only [wlk, ↓get_put', ↓reduceIte, seval, *]
      · simp (disch := first | omega | (simp only [lnv]; omega)) only [wlk, ↓get_put', ↓reduceIte, seval, *]
      · simp (disch := first | omega | (simp only [lnv]; omega)) only [wlk, ↓get_put', ↓reduceIte, seval, *]
    · exact ⟨(numR_bad (.inr (pk_bad h8 (by omega) (by omega : 36028797018963967 < pk (l.take i))))).symm, trivial⟩
    · have n1 : ((pk (l.take i) : Int) * 256).toNat ||| (l.getD i 0).toNat = pk (l.take (i + 1)) := by
        rw [show ((pk (l.take i) : Int) * 256).toNat = pk (l.take i) * 2 ^ 8 by omega, or_add (by omega), pk_take (by omega)]
      have n2 : pk (l.take (i + 1)) ≤ 9223372036854775807 := by rw [pk_take (by omega)]; omega
      refine lp_next hI (l.length - (i + 1)) (by omega) ⟨i + 1, by omega, rfl, rfl, ?_, ?_, ?_, fun _ => hF (by omega), n2⟩
      · simp (disch := first | omega | (simp only [lnv]; omega)) only [wlk, ↓get_put', ↓reduceIte, seval, *]
      · simp (disch := first | omega | (simp only [lnv]; omega)) only [wlk, ↓get_put', ↓reduceIte, seval, *]
      · simp (disch := first | omega | (simp only [lnv]; omega)) only [wlk, ↓get_put', ↓reduceIte, seval, *]; rfl
    · have : i = l.length := by omega
      subst this
      rw [List.take_length] at *
      refine ⟨(numR_ok ?_).symm, trivial⟩
      rintro (h1 | h1)
      · cases l with
        | nil => cases h1
        | cons c r => exact hF (by simp) h1
      · omega
theorem takeNum_ok {h : H} {l : List UInt8} (hl : l.length ≤ 1000000) : FnOk Try.prog 64 [sv l] h fun y h' => y = tri (takeN l) ∧ h' = h := by
  refine fn_go c64 (by intro hb; cases hb) (by simp) (by simp) fun Q hQ => ?_
  simp only [slotsF, Nat.reduceAdd]
  cases l with
  | nil =>
    repeat' (first
      | refine St.h ?_
      | simp (disch := first | omega | (simp only [lnv]; omega)) only [wlk, ↓get_put', ↓reduceIte, seval, *]
      | (with_reducible (first | apply cd_split | apply gd_split)) <;> (intro hc; (try simp only [hcn] at hc); (try simp only [hc]); (try simp only [hcl] at hc); try omega))
    exact ⟨rfl, trivial⟩
  | cons w r =>
  have hlen : (w :: r).length = r.length + 1 := rfl
  have hw := w.toNat_lt
  have hgd : (w :: r).getD 0 0 = w := rfl
  have d0 : (w :: r = []) = False := by simp
  repeat' (first
    | refine St.h ?_
    | simp (disch := first | omega | (simp only [lnv]; omega)) only [wlk, ↓get_put', ↓reduceIte, seval, *]
    | (with_reducible (first | apply cd_split | apply gd_split)) <;> (intro hc; (try simp only [hcn] at hc); (try simp only [hc]); (try simp only [hcl] at hc); try omega))
  · exact ⟨by rw [takeN_big (by omega)]; rfl, trivial⟩
  · exact ⟨by rw [takeN_short (by omega) (by omega)]; rfl, trivial⟩
  have hsl : ((w :: r).take (1 + (w.toNat : Int)).toNat).drop 1 = r.take w.toNat := by
    rw [show (1 + (w.toNat : Int)).toNat = w.toNat + 1 by omega]; simp
  rw [hsl]
  refine CL.mk (number_ok (by rw [List.length_take]; omega)) ?_
  rintro _ _ ⟨rfl, rfl⟩
  by_cases hb : badD (r.take w.toNat)
  · rw [numR_bad hb]
    repeat' (first
      | refine St.h ?_
      | simp (disch := first | omega | (simp only [lnv]; omega)) only [wlk, ↓get_put', ↓reduceIte, seval, *]
      | (with_reducible (first | apply cd_split | apply gd_split)) <;> (intro hc; (try simp only [hcn] at hc); (try simp only [hc]); (try simp only [hcl] at hc); try omega))
    exact ⟨by rw [takeN_bad (by omega) (by omega) hb]; rfl, trivial⟩
  · rw [numR_ok hb]
    repeat' (first
      | refine St.h ?_
      | simp (disch := first | omega | (simp only [lnv]; omega)) only [wlk, ↓get_put', ↓reduceIte, seval, *]
      | (with_reducible (first | apply cd_split | apply gd_split)) <;> (intro hc; (try simp only [hcn] at hc); (try simp only [hc]); (try simp only [hcl] at hc); try omega))
    refine ⟨?_, trivial⟩
    rw [takeN_ok (by omega) (by omega) hb, show (1 : Int) + (w.toNat : Int) = ((w.toNat + 1 : Nat) : Int) by omega]; rfl
theorem num_ok {h : H} {n : Int} (hn : n ≤ 9223372036854775807) (hf : B.val h.floor ≤ B.val h.next) : FnOk Try.prog 53 [.i .i64 n] h fun y h' => y = sv (numB n.toNat) ∧ Stay nowhere h h' := by
  refine fn_go c53 (by intro hb; cases hb) (by simp) (by simp) fun Q hQ => ?_
  simp only [slotsF, Nat.reduceAdd]
  have hN : n.toNat ≤ 9223372036854775807 := by omega
  have h8 := digs_len8 hN
  repeat' (first
    | refine St.h ?_
    | simp (disch := first | omega | (simp only [lnv]; omega)) only [wlk, ↓get_put', ↓reduceIte, seval]
    | (with_reducible (first | apply cd_split | apply gd_split)) <;> (intro hc; (try simp only [hcn] at hc); (try simp only [hc]); (try simp only [hcl] at hc); try omega))
  refine AL.own (by simp) hf fun h1 s1 n1 o1 => ?_
  repeat' (first
    | refine St.h ?_
    | simp (disch := first | omega | (simp only [lnv]; omega)) only [wlk, ↓get_put', ↓reduceIte, seval, List.length_cons, List.length_nil]
    | (with_reducible (first | apply cd_split | apply gd_split)) <;> (intro hc; (try simp only [hcn] at hc); (try simp only [hc]); (try simp only [hcl] at hc); try omega))
  refine Ok.lp (fun m t g => ∃ (z : Int) (d : List UInt8) (xs : List V), m = z.toNat ∧ z.toNat ≤ 9223372036854775807 ∧ digs z.toNat ++ d = digs n.toNat ∧ get 0 t = .i .i64 z ∧ get 3 t = .p h.next 0 0 9 ∧ get 4 t = .i .i64 ((9 - d.length : Nat) : Int) ∧ Ev.Own g h.next xs ∧ xs.length = 9 ∧ xs.drop (9 - d.length) = d.map bv ∧ Stay nowhere h g) n.toNat ?_ ?_
  · simp (disch := first | omega | (simp only [lnv]; omega)) only [wlk, ↓get_put', ↓reduceIte, seval]
    refine ⟨n, [], _, rfl, hN, by simp, rfl, trivial, rfl, o1, rfl, rfl, s1⟩
  rintro I hI m t g ⟨z, d, xs, rfl, hz, hD, f0, f3, f4, o, hx, hxd, st⟩
  have hdl : (digs z.toNat).length + d.length ≤ 8 := by rw [← List.length_append, hD]; exact h8
  have ea2 : (((9 - d.length : Nat) : Int) - 1) = ((8 - d.length : Nat) : Int) := by omega
  have ew : (9 : Int) - ((9 - d.length : Nat) : Int) = (d.length : Int) := by omega
  repeat' (first
    | refine St.h ?_
    | simp (disch := first | omega | (simp only [lnv]; omega)) only [wlk, ↓get_put', ↓reduceIte, seval, f0, f3, f4, hQ, ea2, ew, wrap_u8m]
    | (with_reducible (first | apply cd_split | apply gd_split)) <;> (intro hc; (try simp only [hcn] at hc); (try simp only [hc]); (try simp only [hcl] at hc); try omega))
  · obtain ⟨c, rfl⟩ := Int.eq_ofNat_of_zero_le (by omega : 0 ≤ z)
    rw [Int.toNat_natCast] at hD hdl hz
    have hc0 : c ≠ 0 := by omega
    have hdp := digs_pos hc0
    have hd1 : (digs c).length = (digs (c / 256)).length + 1 := by rw [hdp]; simp
    refine ST.own (y := bv (UInt8.ofNat (c % 256))) o (by rw [← bv_ofNat]; simp; rfl) rfl (by omega) (by omega) fun g' o' s' => ?_
    repeat' (first
      | refine St.h ?_
      | simp (disch := first | omega | (simp only [lnv]; omega)) only [wlk, ↓get_put', ↓reduceIte, seval, f0, f3, f4, ea2]
      | (with_reducible (first | apply cd_split | apply gd_split)) <;> (intro hc; (try simp only [hcn] at hc); (try simp only [hc]); (try simp only [hcl] at hc); try omega))
    have hdrop : (xs.set (8 - d.length) (bv (UInt8.ofNat (c % 256)))).drop (9 - (UInt8.ofNat (c % 256) :: d).length) = (UInt8.ofNat (c % 256) :: d).map bv := by
      rw [show 9 - (UInt8.ofNat (c % 256) :: d).length = 8 - d.length by simp only [List.length_cons]; omega, drop_set1 _ _ _ (by omega), show 8 - d.length + 1 = 9 - d.length by omega, hxd]; rfl
    refine lp_next hI (c / 256) (by omega) ⟨((c / 256 : Nat) : Int), UInt8.ofNat (c % 256) :: d, _, by rw [Int.toNat_natCast], by rw [Int.toNat_natCast]; omega, ?_, ?_, ?_, ?_, o', by rw [List.length_set]; exact hx, hdrop, st.past' s' fun i hi => by rw [hi]; exact Nat.le_refl _⟩
    · rw [Int.toNat_natCast, ← hD, hdp]; simp
    · simp (disch := first | omega | (simp only [lnv]; omega)) only [wlk, ↓get_put', ↓reduceIte, seval]; rfl
    · simp (disch := first | omega | (simp only [lnv]; omega)) only [wlk, ↓get_put', ↓reduceIte, seval, f3]
    · simp (disch := first | omega | (simp only [lnv]; omega)) only [wlk, ↓get_put', ↓reduceIte, seval]
      congr 1; simp only [List.length_cons]; omega
  · have hz0 : z.toNat = 0 := by omega
    rw [hz0, digs_zero, List.nil_append] at hD
    refine ST.own (y := bv (UInt8.ofNat d.length)) o (by rw [← bv_ofNat, Nat.mod_eq_of_lt (by omega)]; rfl) rfl (by omega) (by omega) fun g' o' s' => ?_
    have hlen : (xs.set (8 - d.length) (bv (UInt8.ofNat d.length))).length = 9 := by rw [List.length_set]; exact hx
    have hdrop : (xs.set (8 - d.length) (bv (UInt8.ofNat d.length))).drop (8 - d.length) = (UInt8.ofNat d.length :: d).map bv := by
      rw [drop_set1 _ _ _ (by omega), show 8 - d.length + 1 = 9 - d.length by omega, hxd]; rfl
    have hL := o'.back (a := 8 - d.length) (fin := 9) (by omega) (by omega) (some (9 - (8 - d.length)))
    rw [hdrop, hlen] at hL
    repeat' (first
      | refine St.h ?_
      | simp (disch := first | omega | (simp only [lnv]; omega)) only [wlk, ↓get_put', ↓reduceIte, seval, f0, f3, f4, hL.bs (by simp)]
      | (with_reducible (first | apply cd_split | apply gd_split)) <;> (intro hc; (try simp only [hcn] at hc); (try simp only [hc]); (try simp only [hcl] at hc); try omega))
    subst hQ
    exact ⟨by unfold numB; rw [← hD], st.past' s' fun i hi => by rw [hi]; exact Nat.le_refl _⟩
end Go.Proofs.Ytiingkpdodbldaa

set_option maxRecDepth 100000
set_option maxHeartbeats 8000000
set_option linter.all false
namespace Go.Proofs.Ytiingkpdodbldaa
open Go Go.Ev
theorem text_ok {h : H} {l : List UInt8} (hl : l.length ≤ 1000000) (hf : B.val h.floor ≤ B.val h.next) : FnOk Try.prog 55 [sv l] h fun y h' => y = sv (textB l) ∧ Stay nowhere h h' := by
  refine fn_go c55 (by intro hb; cases hb) (by simp) (by simp) fun Q hQ => ?_
  simp only [slotsF, Nat.reduceAdd]
  have h9 := numB_len (n := l.length) (by omega)
  repeat' (first
    | refine St.h ?_
    | simp (disch := first | omega | (simp only [lnv]; omega)) only [wlk, ↓get_put', ↓reduceIte, seval]
    | (with_reducible (first | apply cd_split | apply gd_split)) <;> (intro hc; (try simp only [hcn] at hc); (try simp only [hc]); (try simp only [hcl] at hc); try omega))
  refine CL.stay (num_ok (by omega) hf) fun h1 s1 => ?_
  repeat' (first
    | refine St.h ?_
    | simp (disch := first | omega | (simp only [lnv]; omega)) only [wlk, ↓get_put', ↓reduceIte, seval]
    | (with_reducible (first | apply cd_split | apply gd_split)) <;> (intro hc; (try simp only [hcn] at hc); (try simp only [hc]); (try simp only [hcl] at hc); try omega))
  subst hQ
  exact ⟨rfl, s1⟩
theorem takeText_ok {h : H} {l : List UInt8} (hl : l.length ≤ 1000000) : FnOk Try.prog 82 [sv l] h fun y h' => y = triT (takeT l) ∧ h' = h := by
  refine fn_go c82 (by intro hb; cases hb) (by simp) (by simp) fun Q hQ => ?_
  simp only [slotsF, Nat.reduceAdd]
  repeat' (first
    | refine St.h ?_
    | simp (disch := first | omega | (simp only [lnv]; omega)) only [wlk, ↓get_put', ↓reduceIte, seval]
    | (with_reducible (first | apply cd_split | apply gd_split)) <;> (intro hc; (try simp only [hcn] at hc); (try simp only [hc]); (try simp only [hcl] at hc); try omega))
  refine CL.pure (takeNum_ok hl) ?_
  rcases takeN_range l with (hc | hc) | ⟨n, k, hc, h1, h2, h3, h4⟩
  · have e : takeT l = ([], 0, 10) := by unfold takeT; rw [hc]; rfl
    rw [hc]; unfold tri
    repeat' (first
      | refine St.h ?_
      | simp (disch := first | omega | (simp only [lnv]; omega)) only [wlk, ↓get_put', ↓reduceIte, seval]
      | (with_reducible (first | apply cd_split | apply gd_split)) <;> (intro hc; (try simp only [hcn] at hc); (try simp only [hc]); (try simp only [hcl] at hc); try omega))
    subst hQ
    exact ⟨by rw [e]; rfl, rfl⟩
  · have e : takeT l = ([], 0, 12) := by unfold takeT; rw [hc]; rfl
    rw [hc]; unfold tri
    repeat' (first
      | refine St.h ?_
      | simp (disch := first | omega | (simp only [lnv]; omega)) only [wlk, ↓get_put', ↓reduceIte, seval]
      | (with_reducible (first | apply cd_split | apply gd_split)) <;> (intro hc; (try simp only [hcn] at hc); (try simp only [hc]); (try simp only [hcl] at hc); try omega))
    subst hQ
    exact ⟨by rw [e]; rfl, rfl⟩
  have e : takeT l = if ((l.drop k).length : Int) < (n : Int) then ([], 0, 12) else ((l.drop k).take n, (k : Int) + n, 0) := by
    unfold takeT; rw [hc]; simp only [if_true, Int.toNat_natCast]
  rw [hc]; unfold tri
  have hd : (l.drop k).length = l.length - k := List.length_drop
  repeat' (first
    | refine St.h ?_
    | simp (disch := first | omega | (simp only [lnv]; omega)) only [wlk, ↓get_put', ↓reduceIte, seval, Int.toNat_natCast]
    | (with_reducible (first | apply cd_split | apply gd_split)) <;> (intro hc; (try simp only [hcn] at hc); (try simp only [hc]); (try simp only [hcl] at hc); try omega))
  · rw [if_pos (by omega)] at e
    subst hQ
    exact ⟨by rw [e]; rfl, rfl⟩
  · rw [if_neg (by omega)] at e
    subst hQ
    exact ⟨by rw [e]; rfl, rfl⟩
theorem takeT_range (l : List UInt8) : (takeT l = ([], 0, 10) ∨ takeT l = ([], 0, 12)) ∨ ∃ (v : List UInt8) (k : Nat), takeT l = (v, (k : Int), 0) ∧ 1 ≤ k ∧ k ≤ l.length ∧ v.length ≤ k := by
  rcases takeN_range l with (hc | hc) | ⟨n, k, hc, h1, h2, h3, h4⟩
  · exact .inl (.inl (by unfold takeT; rw [hc]; rfl))
  · exact .inl (.inr (by unfold takeT; rw [hc]; rfl))
  have e : takeT l = if ((l.drop k).length : Int) < (n : Int) then ([], 0, 12) else ((l.drop k).take n, (k : Int) + n, 0) := by
    unfold takeT; rw [hc]; simp only [if_true, Int.toNat_natCast]
  have hd : (l.drop k).length = l.length - k := List.length_drop
  by_cases hn : ((l.drop k).length : Int) < (n : Int)
  · rw [if_pos hn] at e; exact .inl (.inr e)
  · rw [if_neg hn] at e
    exact .inr ⟨_, k + n, by rw [e]; rfl, by omega, by omega, by rw [List.length_take]; omega⟩
end Go.Proofs.Ytiingkpdodbldaa

set_option maxRecDepth 100000
set_option maxHeartbeats 8000000
set_option linter.all false
namespace Go.Proofs.Ytiingkpdodbldaa
open Go Go.Ev
theorem isWrite_ok {h : H} {k v : List UInt8} {d : Bool} (hf : B.val h.floor ≤ B.val h.next) : FnOk Try.prog 71 [.a [sv k, .b d, sv v]] h fun y h' => y = .b (isW k d v) ∧ Stay nowhere h h' := by
  refine fn_go c71 (by intro hb; cases hb) (by simp) (by simp) fun Q hQ => ?_
  simp only [slotsF, Nat.reduceAdd]
  repeat' (first
    | refine St.h ?_
    | simp (disch := first | omega | (simp only [lnv]; omega)) only [wlk, ↓get_put', ↓reduceIte, seval]
    | (with_reducible (first | apply cd_split | apply gd_split)) <;> (intro hc; (try simp only [hcn] at hc); (try simp only [hc]); (try simp only [hcl] at hc); try omega))
  refine AL.own (by simp) hf fun h1 s1 n1 o1 => ?_
  repeat' (first
    | refine St.h ?_
    | simp (disch := first | omega | (simp only [lnv]; omega)) only [wlk, ↓get_put', ↓reduceIte, seval, o1.row.l1]
    | (with_reducible (first | apply cd_split | apply gd_split)) <;> (intro hc; (try simp only [hcn] at hc); (try simp only [hc]); (try simp only [hcl] at hc); try omega))
  all_goals (subst hQ; refine ⟨?_, s1⟩; congr 1; symm; first | exact isW_lo (by assumption) | exact isW_hi (by assumption) | exact isW_t (by assumption) (by assumption) (by assumption) | exact isW_f (by assumption) (by assumption) (by assumption))
theorem is_ok {h : H} {e : Ent} (hf : B.val h.floor ≤ B.val h.next) : FnOk Try.prog 48 [.a [sv e.key, .i .i64 e.seq, .b e.del, sv e.val]] h fun y h' => y = .b (isE e) ∧ Stay nowhere h h' := by
  refine fn_go c48 (by intro hb; cases hb) (by simp) (by simp) fun Q hQ => ?_
  simp only [slotsF, Nat.reduceAdd]
  repeat' (first
    | refine St.h ?_
    | simp (disch := first | omega | (simp only [lnv]; omega)) only [wlk, ↓get_put', ↓reduceIte, seval]
    | (with_reducible (first | apply cd_split | apply gd_split)) <;> (intro hc; (try simp only [hcn] at hc); (try simp only [hc]); (try simp only [hcl] at hc); try omega))
  refine AL.own (by simp) hf fun h1 s1 n1 o1 => ?_
  repeat' (first
    | refine St.h ?_
    | simp (disch := first | omega | (simp only [lnv]; omega)) only [wlk, ↓get_put', ↓reduceIte, seval, o1.row.l1]
    | (with_reducible (first | apply cd_split | apply gd_split)) <;> (intro hc; (try simp only [hcn] at hc); (try simp only [hc]); (try simp only [hcl] at hc); try omega))
  · refine CL.stay (isWrite_ok (s1.fl hf)) fun h2 s2 => ?_
    repeat' (first
      | refine St.h ?_
      | simp (disch := first | omega | (simp only [lnv]; omega)) only [wlk, ↓get_put', ↓reduceIte, seval, o1.row.l1]
      | (with_reducible (first | apply cd_split | apply gd_split)) <;> (intro hc; (try simp only [hcn] at hc); (try simp only [hc]); (try simp only [hcl] at hc); try omega))
    subst hQ
    exact ⟨by rw [isE_in (by assumption) (by assumption)], s1.trans s2⟩
  · subst hQ
    exact ⟨by rw [isE_hi (by assumption)], s1⟩
  · subst hQ
    exact ⟨by rw [isE_lo (by assumption)], s1⟩
theorem less_ok {h : H} {a b : Ent} (hf : B.val h.floor ≤ B.val h.next) : FnOk Try.prog 72 [.a [sv a.key, .i .i64 a.seq, .b a.del, sv a.val], .a [sv b.key, .i .i64 b.seq, .b b.del, sv b.val]] h fun y h' => y = .b (lessE a b) ∧ Stay nowhere h h' := by
  refine fn_go c72 (by intro hb; cases hb) (by simp) (by simp) fun Q hQ => ?_
  simp only [slotsF, Nat.reduceAdd]
  repeat' (first
    | refine St.h ?_
    | simp (disch := first | omega | (simp only [lnv]; omega)) only [wlk, ↓get_put', ↓reduceIte, seval]
    | (with_reducible (first | apply cd_split | apply gd_split)) <;> (intro hc; (try simp only [hcn] at hc); (try simp only [hc]); (try simp only [hcl] at hc); try omega))
  refine AL.own (by simp) hf fun h1 s1 n1 o1 => ?_
  repeat' (first
    | refine St.h ?_
    | simp (disch := first | omega | (simp only [lnv]; omega)) only [wlk, ↓get_put', ↓reduceIte, seval]
    | (with_reducible (first | apply cd_split | apply gd_split)) <;> (intro hc; (try simp only [hcn] at hc); (try simp only [hc]); (try simp only [hcl] at hc); try omega))
  refine AL.own (by simp) (s1.fl hf) fun h2 s2 n2 o2 => ?_
  have o1' := o1.stay s2 fun h => h
  by_cases hk : a.key = b.key
  · repeat' (first
      | refine St.h ?_
      | simp (disch := first | omega | (simp only [lnv]; omega)) only [wlk, ↓get_put', ↓reduceIte, seval, o1'.row.l1, o2.row.l1, hk]
      | (with_reducible (first | apply cd_split | apply gd_split)) <;> (intro hc; (try simp only [hcn] at hc); (try simp only [hc]); (try simp only [hcl] at hc); try omega))
    subst hQ
    exact ⟨by rw [lessE_eq hk], s1.trans s2⟩
  · repeat' (first
      | refine St.h ?_
      | simp (disch := first | omega | (simp only [lnv]; omega)) only [wlk, ↓get_put', ↓reduceIte, seval, o1'.row.l1, o2.row.l1, hk]
      | (with_reducible (first | apply cd_split | apply gd_split)) <;> (intro hc; (try simp only [hcn] at hc); (try simp only [hc]); (try simp only [hcl] at hc); try omega))
    subst hQ
    exact ⟨by rw [lessE_ne hk], s1.trans s2⟩
theorem sorted_ok {h : H} {v : V} {L : List Ent} (hL : Es h v L) (hl : L.length ≤ 9223372036854775807) (hf : B.val h.floor ≤ B.val h.next) : FnOk Try.prog 49 [v] h fun y h' => y = .b (sortedE L) ∧ Stay nowhere h h' := by
  refine fn_go c49 (by intro hb; cases hb) (by simp) (by simp) fun Q hQ => ?_
  simp only [slotsF, Nat.reduceAdd]
  repeat' (first
    | refine St.h ?_
    | simp (disch := first | omega | (simp only [lnv]; omega)) only [wlk, ↓get_put', ↓reduceIte, seval]
    | (with_reducible (first | apply cd_split | apply gd_split)) <;> (intro hc; (try simp only [hcn] at hc); (try simp only [hc]); (try simp only [hcl] at hc); try omega))
  refine Ok.lp (fun m t g => ∃ j : Nat, m = L.length - j ∧ Stay nowhere h g ∧ srtU L j = true ∧ j ≤ L.length - 1 ∧ get 0 t = v ∧ get 3 t = .i .i64 ((j : Int) + 1)) L.length ?_ ?_
  · simp (disch := first | omega | (simp only [lnv]; omega)) only [wlk, ↓get_put', ↓reduceIte, seval]
    exact ⟨0, by omega, Stay.refl _ _, rfl, by omega, trivial, rfl⟩
  rintro I hI m t g ⟨j, rfl, st, hs, hj, f0, f3⟩
  have hL' := hL.grow st
  have ej : (j : Int) + 1 - 1 = (j : Int) := by omega
  have ek : ((j : Int) + 1).toNat = j + 1 := by omega
  repeat' (first
    | refine St.h ?_
    | simp (disch := first | omega | (simp only [lnv]; omega)) only [wlk, ↓get_put', ↓reduceIte, seval, f0, f3, hL.ln, hL.ix, hL'.la, ej, ek, Int.toNat_natCast]
    | (with_reducible (first | apply cd_split | apply gd_split)) <;> (intro hc; (try simp only [hcn] at hc); (try simp only [hc]); (try simp only [hcl] at hc); try omega))
  · refine CL.stay (less_ok (st.fl hf)) fun h1 s1 => ?_
    cases hb : lessE (L.getD j default) (L.getD (j + 1) default) with
    | false =>
      repeat' (first
        | refine St.h ?_
        | simp (disch := first | omega | (simp only [lnv]; omega)) only [wlk, ↓get_put', ↓reduceIte, seval, f0, f3]
        | (with_reducible (first | apply cd_split | apply gd_split)) <;> (intro hc; (try simp only [hcn] at hc); (try simp only [hc]); (try simp only [hcl] at hc); try omega))
      subst hQ
      exact ⟨by rw [sorted_no (by omega) hb], st.trans s1⟩
    | true =>
      repeat' (first
        | refine St.h ?_
        | simp (disch := first | omega | (simp only [lnv]; omega)) only [wlk, ↓get_put', ↓reduceIte, seval, f0, f3]
        | (with_reducible (first | apply cd_split | apply gd_split)) <;> (intro hc; (try simp only [hcn] at hc); (try simp only [hc]); (try simp only [hcl] at hc); try omega))
      refine lp_next hI (L.length - (j + 1)) (by omega) ⟨j + 1, rfl, st.trans s1, by rw [srtU_succ, hs, hb]; rfl, by omega, ?_, ?_⟩
      · simp (disch := first | omega | (simp only [lnv]; omega)) only [wlk, ↓get_put', ↓reduceIte, seval, f0]
      · simp (disch := first | omega | (simp only [lnv]; omega)) only [wlk, ↓get_put', ↓reduceIte, seval]; rfl
  · subst hQ
    obtain rfl : j = L.length - 1 := by omega
    exact ⟨by rw [show sortedE L = true from hs], st⟩
end Go.Proofs.Ytiingkpdodbldaa

set_option maxRecDepth 100000
set_option maxHeartbeats 8000000
set_option linter.all false
namespace Go.Proofs.Ytiingkpdodbldaa
open Go Go.Ev
theorem isE_len {e : Ent} (h : isE e = true) : e.key.length ≤ 13 ∧ e.val.length ≤ 24 ∧ 1 ≤ e.seq ∧ e.seq ≤ 1000000 := by
  obtain ⟨⟨h1, h2⟩, h3, h4, h5, _⟩ := isE_iff.1 h; exact ⟨h4, h5, h1, h2⟩
theorem textB_len (l : List UInt8) (h : l.length ≤ 9223372036854775807) : (textB l).length ≤ l.length + 9 := by
  unfold textB; rw [List.length_append]; have := numB_len h; omega
theorem bytes_ok {h : H} {e : Ent} (hf : B.val h.floor ≤ B.val h.next) : FnOk Try.prog 74 [.a [sv e.key, .i .i64 e.seq, .b e.del, sv e.val]] h fun y h' => y = sv (bytesE e) ∧ Stay nowhere h h' := by
  refine fn_go c74 (by intro hb; cases hb) (by simp) (by simp) fun Q hQ => ?_
  simp only [slotsF, Nat.reduceAdd]
  repeat' (first
    | refine St.h ?_
    | simp (disch := first | omega | (simp only [lnv]; omega)) only [wlk, ↓get_put', ↓reduceIte, seval]
    | (with_reducible (first | apply cd_split | apply gd_split)) <;> (intro hc; (try simp only [hcn] at hc); (try simp only [hc]); (try simp only [hcl] at hc); try omega))
  refine AL.own (by simp) hf fun h1 s1 n1 o1 => ?_
  have hf1 := s1.fl hf
  repeat' (first
    | refine St.h ?_
    | simp (disch := first | omega | (simp only [lnv]; omega)) only [wlk, ↓get_put', ↓reduceIte, seval, o1.row.l1, o1.row.ln]
    | (with_reducible (first | apply cd_split | apply gd_split)) <;> (intro hc; (try simp only [hcn] at hc); (try simp only [hc]); (try simp only [hcl] at hc); try omega))
  refine CL.stay (is_ok hf1) fun h2 s2 => ?_
  have hf2 := s2.fl hf1
  have o2 := o1.stay s2 fun h => h
  cases hi : isE e with
  | false =>
    repeat' (first
      | refine St.h ?_
      | simp (disch := first | omega | (simp only [lnv]; omega)) only [wlk, ↓get_put', ↓reduceIte, seval, o2.row.l1]
      | (with_reducible (first | apply cd_split | apply gd_split)) <;> (intro hc; (try simp only [hcn] at hc); (try simp only [hc]); (try simp only [hcl] at hc); try omega))
    subst hQ
    exact ⟨by unfold bytesE; rw [hi]; rfl, s1.trans s2⟩
  | true =>
  obtain ⟨k1, k2, k3, k4⟩ := isE_len hi
  have hb : bytesE e = textB e.key ++ tailB e := by unfold bytesE; rw [hi]; rfl
  have l1 := textB_len e.key (by omega)
  have l2 := textB_len e.val (by omega)
  have l3 := numB_len (n := e.seq.toNat) (by omega)
  repeat' (first
    | refine St.h ?_
    | simp (disch := first | omega | (simp only [lnv]; omega)) only [wlk, ↓get_put', ↓reduceIte, seval, o2.row.l1]
    | (with_reducible (first | apply cd_split | apply gd_split)) <;> (intro hc; (try simp only [hcn] at hc); (try simp only [hc]); (try simp only [hcl] at hc); try omega))
  refine CL.stayU (text_ok (by omega) (re_fl _)) fun h3 s3 => ?_
  have o3 := o2.stay s3 fun h => h
  have hf3 := s3.fl hf2
  repeat' (first
    | refine St.h ?_
    | simp (disch := first | omega | (simp only [lnv]; omega)) only [wlk, ↓get_put', ↓reduceIte, seval, o3.row.l1]
    | (with_reducible (first | apply cd_split | apply gd_split)) <;> (intro hc; (try simp only [hcn] at hc); (try simp only [hc]); (try simp only [hcl] at hc); try omega))
  refine CL.stay (num_ok (by omega) hf3) fun h4 s4 => ?_
  have o4 := o3.stay s4 fun h => h
  have hf4 := s4.fl hf3
  have s14 := ((s1.trans s2).trans s3).trans s4
  cases hd : e.del with
  | true =>
    repeat' (first
      | refine St.h ?_
      | simp (disch := first | omega | (simp only [lnv]; omega)) only [wlk, ↓get_put', ↓reduceIte, seval, o4.row.l1, hd]
      | (with_reducible (first | apply cd_split | apply gd_split)) <;> (intro hc; (try simp only [hcn] at hc); (try simp only [hc]); (try simp only [hcl] at hc); try omega))
    refine AL.str (bs := [1]) rfl (by simp) rfl rfl (by simp) hf4 fun h5 u5 s5 => ?_
    repeat' (first
      | refine St.h ?_
      | simp (disch := first | omega | (simp only [lnv]; omega)) only [wlk, ↓get_put', ↓reduceIte, seval]
      | (with_reducible (first | apply cd_split | apply gd_split)) <;> (intro hc; (try simp only [hcn] at hc); (try simp only [hc]); (try simp only [hcl] at hc); try omega))
    subst hQ
    exact ⟨by rw [hb]; unfold tailB; rw [hd]; simp, s14.trans s5⟩
  | false =>
    repeat' (first
      | refine St.h ?_
      | simp (disch := first | omega | (simp only [lnv]; omega)) only [wlk, ↓get_put', ↓reduceIte, seval, o4.row.l1, hd]
      | (with_reducible (first | apply cd_split | apply gd_split)) <;> (intro hc; (try simp only [hcn] at hc); (try simp only [hc]); (try simp only [hcl] at hc); try omega))
    refine AL.strU (bs := [0]) rfl (by simp) rfl rfl (by simp) hf4 fun h5 u5 s5 => ?_
    have o5 := o4.stay s5 fun h => h
    have hf5 := s5.fl hf4
    repeat' (first
      | refine St.h ?_
      | simp (disch := first | omega | (simp only [lnv]; omega)) only [wlk, ↓get_put', ↓reduceIte, seval, o5.row.l1]
      | (with_reducible (first | apply cd_split | apply gd_split)) <;> (intro hc; (try simp only [hcn] at hc); (try simp only [hc]); (try simp only [hcl] at hc); try omega))
    refine CL.stayU (text_ok (by omega) (re_fl _)) fun h6 s6 => ?_
    repeat' (first
      | refine St.h ?_
      | simp (disch := first | omega | (simp only [lnv]; omega)) only [wlk, ↓get_put', ↓reduceIte, seval]
      | (with_reducible (first | apply cd_split | apply gd_split)) <;> (intro hc; (try simp only [hcn] at hc); (try simp only [hc]); (try simp only [hcl] at hc); try omega))
    subst hQ
    exact ⟨by rw [hb]; unfold tailB; rw [hd]; simp, (s14.trans s5).trans s6⟩
end Go.Proofs.Ytiingkpdodbldaa

set_option maxRecDepth 100000
set_option maxHeartbeats 8000000
set_option linter.all false
namespace Go.Proofs.Ytiingkpdodbldaa
open Go Go.Ev
theorem take_ok {h : H} {s : List UInt8} (hs : s.length ≤ 1000000) (hf : B.val h.floor ≤ B.val h.next) : FnOk Try.prog 85 [sv s] h fun y h' => y = triE (takeE s) ∧ Stay nowhere h h' := by
  refine fn_go c85 (by intro hb; cases hb) (by simp) (by simp) fun Q hQ => ?_
  simp only [slotsF, Nat.reduceAdd]
  repeat' (first
    | refine St.h ?_
    | simp (disch := first | omega | (simp only [lnv]; omega)) only [wlk, ↓get_put', ↓reduceIte, seval]
    | (with_reducible (first | apply cd_split | apply gd_split)) <;> (intro hc; (try simp only [hcn] at hc); (try simp only [hc]); (try simp only [hcl] at hc); try omega))
  refine AL.own (by simp) hf fun h1 s1 n1 o1 => ?_
  repeat' (first
    | refine St.h ?_
    | simp (disch := first | omega | (simp only [lnv]; omega)) only [wlk, ↓get_put', ↓reduceIte, seval]
    | (with_reducible (first | apply cd_split | apply gd_split)) <;> (intro hc; (try simp only [hcn] at hc); (try simp only [hc]); (try simp only [hcl] at hc); try omega))
  refine CL.pure (takeText_ok hs) ?_
  rcases takeT_range s with (hc | hc) | ⟨k, n, hc, k1, k2, k3⟩
  · rw [hc]; unfold triT
    repeat' (first
      | refine St.h ?_
      | simp (disch := first | omega | (simp only [lnv]; omega)) only [wlk, ↓get_put', ↓reduceIte, seval]
      | (with_reducible (first | apply cd_split | apply gd_split)) <;> (intro hc; (try simp only [hcn] at hc); (try simp only [hc]); (try simp only [hcl] at hc); try omega))
    refine ST.all o1 rfl rfl (by simp) (by simp) fun hz oz sz => ?_
    repeat' (first
      | refine St.h ?_
      | simp (disch := first | omega | (simp only [lnv]; omega)) only [wlk, ↓get_put', ↓reduceIte, seval, oz.ra4]
      | (with_reducible (first | apply cd_split | apply gd_split)) <;> (intro hc; (try simp only [hcn] at hc); (try simp only [hc]); (try simp only [hcl] at hc); try omega))
    subst hQ
    exact ⟨by rw [takeE_1 hc (by omega)]; rfl, (s1).past' sz fun i hi => by rw [hi]; exact Nat.le_refl _⟩
  · rw [hc]; unfold triT
    repeat' (first
      | refine St.h ?_
      | simp (disch := first | omega | (simp only [lnv]; omega)) only [wlk, ↓get_put', ↓reduceIte, seval]
      | (with_reducible (first | apply cd_split | apply gd_split)) <;> (intro hc; (try simp only [hcn] at hc); (try simp only [hc]); (try simp only [hcl] at hc); try omega))
    refine ST.all o1 rfl rfl (by simp) (by simp) fun hz oz sz => ?_
    repeat' (first
      | refine St.h ?_
      | simp (disch := first | omega | (simp only [lnv]; omega)) only [wlk, ↓get_put', ↓reduceIte, seval, oz.ra4]
      | (with_reducible (first | apply cd_split | apply gd_split)) <;> (intro hc; (try simp only [hcn] at hc); (try simp only [hc]); (try simp only [hcl] at hc); try omega))
    subst hQ
    exact ⟨by rw [takeE_1 hc (by omega)]; rfl, (s1).past' sz fun i hi => by rw [hi]; exact Nat.le_refl _⟩
  rw [hc]; unfold triT
  repeat' (first
    | refine St.h ?_
    | simp (disch := first | omega | (simp only [lnv]; omega)) only [wlk, ↓get_put', ↓reduceIte, seval, Int.toNat_natCast]
    | (with_reducible (first | apply cd_split | apply gd_split)) <;> (intro hc; (try simp only [hcn] at hc); (try simp only [hc]); (try simp only [hcl] at hc); try omega))
  have hd : (s.drop n).length = s.length - n := List.length_drop
  refine CL.pure (takeNum_ok (by omega)) ?_
  rcases takeN_range (s.drop n) with (hn | hn) | ⟨q, m, hn, m1, m2, m3, m4⟩
  · rw [hn]; unfold tri
    repeat' (first
      | refine St.h ?_
      | simp (disch := first | omega | (simp only [lnv]; omega)) only [wlk, ↓get_put', ↓reduceIte, seval]
      | (with_reducible (first | apply cd_split | apply gd_split)) <;> (intro hc; (try simp only [hcn] at hc); (try simp only [hc]); (try simp only [hcl] at hc); try omega))
    refine ST.all o1 rfl rfl (by simp) (by simp) fun hz oz sz => ?_
    repeat' (first
      | refine St.h ?_
      | simp (disch := first | omega | (simp only [lnv]; omega)) only [wlk, ↓get_put', ↓reduceIte, seval, oz.ra4]
      | (with_reducible (first | apply cd_split | apply gd_split)) <;> (intro hc; (try simp only [hcn] at hc); (try simp only [hc]); (try simp only [hcl] at hc); try omega))
    subst hQ
    exact ⟨by rw [takeE_3 hc (tailU_1 hn (by omega)) (by omega)]; rfl, (s1).past' sz fun i hi => by rw [hi]; exact Nat.le_refl _⟩
  · rw [hn]; unfold tri
    repeat' (first
      | refine St.h ?_
      | simp (disch := first | omega | (simp only [lnv]; omega)) only [wlk, ↓get_put', ↓reduceIte, seval]
      | (with_reducible (first | apply cd_split | apply gd_split)) <;> (intro hc; (try simp only [hcn] at hc); (try simp only [hc]); (try simp only [hcl] at hc); try omega))
    refine ST.all o1 rfl rfl (by simp) (by simp) fun hz oz sz => ?_
    repeat' (first
      | refine St.h ?_
      | simp (disch := first | omega | (simp only [lnv]; omega)) only [wlk, ↓get_put', ↓reduceIte, seval, oz.ra4]
      | (with_reducible (first | apply cd_split | apply gd_split)) <;> (intro hc; (try simp only [hcn] at hc); (try simp only [hc]); (try simp only [hcl] at hc); try omega))
    subst hQ
    exact ⟨by rw [takeE_3 hc (tailU_1 hn (by omega)) (by omega)]; rfl, (s1).past' sz fun i hi => by rw [hi]; exact Nat.le_refl _⟩
  rw [hn]; unfold tri
  have hg := getD_drop (s := s) n m
  have hb := (s.getD (n + m) 0).toNat_lt
  have ek : ((n : Int) + (m : Int)).toNat = n + m := by omega
  have ej : ((n : Int) + (m : Int) + 1).toNat = n + m + 1 := by omega
  have hdd : (s.drop n).drop (m + 1) = s.drop (n + m + 1) := by rw [List.drop_drop]; congr 1
  have hdl : (s.drop (n + m + 1)).length = s.length - (n + m + 1) := List.length_drop
  by_cases hm : m = (s.drop n).length
  · have hq : ((n : Int) + (m : Int) = (s.length : Int)) = True := eq_true (by omega)
    repeat' (first
      | refine St.h ?_
      | simp (disch := first | omega | (simp only [lnv]; omega)) only [wlk, ↓get_put', ↓reduceIte, seval, ek, ej, hq]
      | (with_reducible (first | apply cd_split | apply gd_split)) <;> (intro hc; (try simp only [hcn] at hc); (try simp only [hc]); (try simp only [hcl] at hc); try omega))
    refine ST.all o1 rfl rfl (by simp) (by simp) fun hz oz sz => ?_
    repeat' (first
      | refine St.h ?_
      | simp (disch := first | omega | (simp only [lnv]; omega)) only [wlk, ↓get_put', ↓reduceIte, seval, oz.ra4]
      | (with_reducible (first | apply cd_split | apply gd_split)) <;> (intro hc; (try simp only [hcn] at hc); (try simp only [hc]); (try simp only [hcl] at hc); try omega))
    subst hQ
    exact ⟨by rw [takeE_3 hc (tailU_2 hn hm) (by omega)]; rfl, (s1).past' sz fun i hi => by rw [hi]; exact Nat.le_refl _⟩
  have hq : ((n : Int) + (m : Int) = (s.length : Int)) = False := eq_false (by omega)
  by_cases c0 : (s.getD (n + m) 0).toNat = 0
  · repeat' (first
      | refine St.h ?_
      | simp (disch := first | omega | (simp only [lnv]; omega)) only [wlk, ↓get_put', ↓reduceIte, seval, ek, ej, hq, c0]
      | (with_reducible (first | apply cd_split | apply gd_split)) <;> (intro hc; (try simp only [hcn] at hc); (try simp only [hc]); (try simp only [hcl] at hc); try omega))
    refine CL.pure (takeText_ok (by omega)) ?_
    rcases takeT_range (s.drop (n + m + 1)) with (hv | hv) | ⟨v, j, hv, j1, j2, j3⟩
    · rw [hv]; unfold triT
      repeat' (first
        | refine St.h ?_
        | simp (disch := first | omega | (simp only [lnv]; omega)) only [wlk, ↓get_put', ↓reduceIte, seval]
        | (with_reducible (first | apply cd_split | apply gd_split)) <;> (intro hc; (try simp only [hcn] at hc); (try simp only [hc]); (try simp only [hcl] at hc); try omega))
      refine ST.all o1 rfl rfl (by simp) (by simp) fun hz oz sz => ?_
      repeat' (first
        | refine St.h ?_
        | simp (disch := first | omega | (simp only [lnv]; omega)) only [wlk, ↓get_put', ↓reduceIte, seval, oz.ra4]
        | (with_reducible (first | apply cd_split | apply gd_split)) <;> (intro hc; (try simp only [hcn] at hc); (try simp only [hc]); (try simp only [hcl] at hc); try omega))
      subst hQ
      exact ⟨by rw [takeE_3 hc (tailU_3 hn hm (by rw [hg]; exact c0) (by rw [hdd]; exact hv) (by omega)) (by omega)]; rfl, (s1).past' sz fun i hi => by rw [hi]; exact Nat.le_refl _⟩
    · rw [hv]; unfold triT
      repeat' (first
        | refine St.h ?_
        | simp (disch := first | omega | (simp only [lnv]; omega)) only [wlk, ↓get_put', ↓reduceIte, seval]
        | (with_reducible (first | apply cd_split | apply gd_split)) <;> (intro hc; (try simp only [hcn] at hc); (try simp only [hc]); (try simp only [hcl] at hc); try omega))
      refine ST.all o1 rfl rfl (by simp) (by simp) fun hz oz sz => ?_
      repeat' (first
        | refine St.h ?_
        | simp (disch := first | omega | (simp only [lnv]; omega)) only [wlk, ↓get_put', ↓reduceIte, seval, oz.ra4]
        | (with_reducible (first | apply cd_split | apply gd_split)) <;> (intro hc; (try simp only [hcn] at hc); (try simp only [hc]); (try simp only [hcl] at hc); try omega))
      subst hQ
      exact ⟨by rw [takeE_3 hc (tailU_3 hn hm (by rw [hg]; exact c0) (by rw [hdd]; exact hv) (by omega)) (by omega)]; rfl, (s1).past' sz fun i hi => by rw [hi]; exact Nat.le_refl _⟩
    rw [hv]; unfold triT
    repeat' (first
      | refine St.h ?_
      | simp (disch := first | omega | (simp only [lnv]; omega)) only [wlk, ↓get_put', ↓reduceIte, seval]
      | (with_reducible (first | apply cd_split | apply gd_split)) <;> (intro hc; (try simp only [hcn] at hc); (try simp only [hc]); (try simp only [hcl] at hc); try omega))
    have ez : (n : Int) + ((m : Int) + 1 + (j : Int)) = (n : Int) + (m : Int) + 1 + (j : Int) := by omega
    refine ST.all o1 rfl rfl (by simp) (by simp) fun hz oz sz => ?_
    repeat' (first
      | refine St.h ?_
      | simp (disch := first | omega | (simp only [lnv]; omega)) only [wlk, ↓get_put', ↓reduceIte, seval, oz.ra4]
      | (with_reducible (first | apply cd_split | apply gd_split)) <;> (intro hc; (try simp only [hcn] at hc); (try simp only [hc]); (try simp only [hcl] at hc); try omega))
    subst hQ
    exact ⟨by rw [takeE_4 hc (tailU_4 hn hm (by rw [hg]; exact c0) (by rw [hdd]; exact hv)), ez]; rfl, (s1).past' sz fun i hi => by rw [hi]; exact Nat.le_refl _⟩
  have q0 : (((s.getD (n + m) 0).toNat : Int) = 0) = False := eq_false (by omega)
  by_cases c1 : (s.getD (n + m) 0).toNat = 1
  · repeat' (first
      | refine St.h ?_
      | simp (disch := first | omega | (simp only [lnv]; omega)) only [wlk, ↓get_put', ↓reduceIte, seval, ek, ej, hq, q0, c1]
      | (with_reducible (first | apply cd_split | apply gd_split)) <;> (intro hc; (try simp only [hcn] at hc); (try simp only [hc]); (try simp only [hcl] at hc); try omega))
    have ez : (n : Int) + ((m : Int) + 1) = (n : Int) + (m : Int) + 1 := by omega
    refine ST.all o1 rfl rfl (by simp) (by simp) fun hz oz sz => ?_
    repeat' (first
      | refine St.h ?_
      | simp (disch := first | omega | (simp only [lnv]; omega)) only [wlk, ↓get_put', ↓reduceIte, seval, oz.ra4]
      | (with_reducible (first | apply cd_split | apply gd_split)) <;> (intro hc; (try simp only [hcn] at hc); (try simp only [hc]); (try simp only [hcl] at hc); try omega))
    subst hQ
    exact ⟨by rw [takeE_4 hc (tailU_5 hn hm (by rw [hg]; exact c1)), ez]; rfl, (s1).past' sz fun i hi => by rw [hi]; exact Nat.le_refl _⟩
  have q1 : (((s.getD (n + m) 0).toNat : Int) = 1) = False := eq_false (by omega)
  repeat' (first
    | refine St.h ?_
    | simp (disch := first | omega | (simp only [lnv]; omega)) only [wlk, ↓get_put', ↓reduceIte, seval, ek, ej, hq, q0, q1]
    | (with_reducible (first | apply cd_split | apply gd_split)) <;> (intro hc; (try simp only [hcn] at hc); (try simp only [hc]); (try simp only [hcl] at hc); try omega))
  refine ST.all o1 rfl rfl (by simp) (by simp) fun hz oz sz => ?_
  repeat' (first
    | refine St.h ?_
    | simp (disch := first | omega | (simp only [lnv]; omega)) only [wlk, ↓get_put', ↓reduceIte, seval, oz.ra4]
    | (with_reducible (first | apply cd_split | apply gd_split)) <;> (intro hc; (try simp only [hcn] at hc); (try simp only [hc]); (try simp only [hcl] at hc); try omega))
  subst hQ
  exact ⟨by rw [takeE_3 hc (tailU_6 hn hm (by rw [hg]; exact c0) (by rw [hg]; exact c1)) (by omega)]; rfl, (s1).past' sz fun i hi => by rw [hi]; exact Nat.le_refl _⟩
end Go.Proofs.Ytiingkpdodbldaa

set_option maxRecDepth 100000
set_option maxHeartbeats 8000000
set_option linter.all false
namespace Go.Proofs.Ytiingkpdodbldaa
open Go Go.Ev
theorem own_lt' {h : H} {id : B} {xs : List V} (o : Ev.Own h id xs) : B.val id < B.val h.next := by obtain ⟨_, _, _, _, _, _, h6, _⟩ := o; exact h6
theorem b_ne {a b : B} (h : B.val a < B.val b) : a ≠ b := fun e => by rw [e] at h; exact absurd h (Nat.lt_irrefl _)
theorem read_ok {h : H} {s : List UInt8} (hs : s.length ≤ 1000000) (hf : B.val h.floor ≤ B.val h.next) : FnOk Try.prog 84 [sv s] h fun y h' => y = triE (readE s) ∧ Stay nowhere h h' := by
  refine fn_go c84 (by intro hb; cases hb) (by simp) (by simp) fun Q hQ => ?_
  simp only [slotsF, Nat.reduceAdd]
  repeat' (first
    | refine St.h ?_
    | simp (disch := first | omega | (simp only [lnv]; omega)) only [wlk, ↓get_put', ↓reduceIte, seval]
    | (with_reducible (first | apply cd_split | apply gd_split)) <;> (intro hc; (try simp only [hcn] at hc); (try simp only [hc]); (try simp only [hcl] at hc); try omega))
  refine AL.own (by simp) hf fun h1 s1 n1 o1 => ?_
  have hf1 := s1.fl hf
  repeat' (first
    | refine St.h ?_
    | simp (disch := first | omega | (simp only [lnv]; omega)) only [wlk, ↓get_put', ↓reduceIte, seval]
    | (with_reducible (first | apply cd_split | apply gd_split)) <;> (intro hc; (try simp only [hcn] at hc); (try simp only [hc]); (try simp only [hcl] at hc); try omega))
  refine CL.stay (take_ok hs hf1) fun h2 s2 => ?_
  have hf2 := s2.fl hf1
  have o2 := o1.stay s2 fun h => h
  generalize hr : takeE s = r
  obtain ⟨x, z, f⟩ := r
  obtain ⟨k, q, d, v⟩ := x
  unfold triE entC
  repeat' (first
    | refine St.h ?_
    | simp (disch := first | omega | (simp only [lnv]; omega)) only [wlk, ↓get_put', ↓reduceIte, seval]
    | (with_reducible (first | apply cd_split | apply gd_split)) <;> (intro hc; (try simp only [hcn] at hc); (try simp only [hc]); (try simp only [hcl] at hc); try omega))
  refine AL.own (by simp) hf2 fun h3 s3 n3 o3 => ?_
  have hf3 := s3.fl hf2
  have o23 := o2.stay s3 fun h => h
  repeat' (first
    | refine St.h ?_
    | simp (disch := first | omega | (simp only [lnv]; omega)) only [wlk, ↓get_put', ↓reduceIte, seval]
    | (with_reducible (first | apply cd_split | apply gd_split)) <;> (intro hc; (try simp only [hcn] at hc); (try simp only [hc]); (try simp only [hcl] at hc); try omega))
  refine ST.all o3 rfl rfl (by simp) (by simp) fun h4 o4 s4 => ?_
  have hlt : B.val h.next < B.val h2.next := own_lt' o2
  have o24 := o23.stay s4 (b_ne hlt)
  have s34 : Stay nowhere h2 h4 := s3.past' s4 fun i hi => by rw [hi]; exact Nat.le_refl _
  have s14 := (s1.trans s2).trans s34
  have hf4 := s34.fl hf2
  by_cases fz : f = 0
  case neg =>
    have hz' : (f = 0) = False := eq_false fz
    repeat' (first
      | refine St.h ?_
      | simp (disch := first | omega | (simp only [lnv]; omega)) only [wlk, ↓get_put', ↓reduceIte, seval, hz']
      | (with_reducible (first | apply cd_split | apply gd_split)) <;> (intro hc; (try simp only [hcn] at hc); (try simp only [hc]); (try simp only [hcl] at hc); try omega))
    refine ST.all o24 rfl rfl (by simp) (by simp) fun hz oz sz => ?_
    repeat' (first
      | refine St.h ?_
      | simp (disch := first | omega | (simp only [lnv]; omega)) only [wlk, ↓get_put', ↓reduceIte, seval, oz.ra4]
      | (with_reducible (first | apply cd_split | apply gd_split)) <;> (intro hc; (try simp only [hcn] at hc); (try simp only [hc]); (try simp only [hcl] at hc); try omega))
    subst hQ
    exact ⟨by rw [readE_1 (by rw [hr]; exact fz), hr]; rfl, (s14).past' sz fun i hi => by rw [hi]; exact Nat.le_refl _⟩

  subst fz
  repeat' (first
    | refine St.h ?_
    | simp (disch := first | omega | (simp only [lnv]; omega)) only [wlk, ↓get_put', ↓reduceIte, seval, o4.row.ln]
    | (with_reducible (first | apply cd_split | apply gd_split)) <;> (intro hc; (try simp only [hcn] at hc); (try simp only [hc]); (try simp only [hcl] at hc); try omega))
  refine CL.stay (is_ok (e := ⟨k, q, d, v⟩) hf4) fun h5 s5 => ?_
  have o5 := o24.stay s5 fun h => h
  have o45 := o4.stay s5 fun h => h
  cases hi : isE ⟨k, q, d, v⟩ with
  | false =>
    repeat' (first
      | refine St.h ?_
      | simp (disch := first | omega | (simp only [lnv]; omega)) only [wlk, ↓get_put', ↓reduceIte, seval]
      | (with_reducible (first | apply cd_split | apply gd_split)) <;> (intro hc; (try simp only [hcn] at hc); (try simp only [hc]); (try simp only [hcl] at hc); try omega))
    refine ST.all o5 rfl rfl (by simp) (by simp) fun hz oz sz => ?_
    repeat' (first
      | refine St.h ?_
      | simp (disch := first | omega | (simp only [lnv]; omega)) only [wlk, ↓get_put', ↓reduceIte, seval, oz.ra4]
      | (with_reducible (first | apply cd_split | apply gd_split)) <;> (intro hc; (try simp only [hcn] at hc); (try simp only [hc]); (try simp only [hcl] at hc); try omega))
    subst hQ
    exact ⟨by rw [readE_2 (by rw [hr]) (by rw [hr]; exact hi)]; rfl, (s14.trans s5).past' sz fun i hi => by rw [hi]; exact Nat.le_refl _⟩

  | true =>
    repeat' (first
      | refine St.h ?_
      | simp (disch := first | omega | (simp only [lnv]; omega)) only [wlk, ↓get_put', ↓reduceIte, seval, o45.row.ln]
      | (with_reducible (first | apply cd_split | apply gd_split)) <;> (intro hc; (try simp only [hcn] at hc); (try simp only [hc]); (try simp only [hcl] at hc); try omega))
    refine ST.all o5 rfl rfl (by simp) (by simp) fun hz oz sz => ?_
    repeat' (first
      | refine St.h ?_
      | simp (disch := first | omega | (simp only [lnv]; omega)) only [wlk, ↓get_put', ↓reduceIte, seval, oz.ra4]
      | (with_reducible (first | apply cd_split | apply gd_split)) <;> (intro hc; (try simp only [hcn] at hc); (try simp only [hc]); (try simp only [hcl] at hc); try omega))
    subst hQ
    exact ⟨by rw [readE_3 (by rw [hr]) (by rw [hr]; exact hi), hr]; rfl, (s14.trans s5).past' sz fun i hi => by rw [hi]; exact Nat.le_refl _⟩
end Go.Proofs.Ytiingkpdodbldaa

set_option maxRecDepth 100000
set_option maxHeartbeats 8000000
set_option linter.all false
namespace Go.Proofs.Ytiingkpdodbldaa
open Go Go.Ev
theorem tailU_range (key s : List UInt8) (h0 : (tailU key s).2.2 = 0) : ∃ z : Nat, (tailU key s).2.1 = (z : Int) ∧ 1 ≤ z ∧ z ≤ s.length := by
  rcases takeN_range s with (hn | hn) | ⟨q, m, hn, m1, m2, m3, m4⟩
  · rw [tailU_1 hn (by omega)] at h0; cases h0
  · rw [tailU_1 hn (by omega)] at h0; cases h0
  by_cases hm : m = s.length
  · rw [tailU_2 hn hm] at h0; cases h0
  have hdl : (s.drop (m + 1)).length = s.length - (m + 1) := List.length_drop
  by_cases c0 : (s.getD m 0).toNat = 0
  · rcases takeT_range (s.drop (m + 1)) with (hv | hv) | ⟨v, j, hv, j1, j2, j3⟩
    · rw [tailU_3 hn hm c0 hv (by omega)] at h0; cases h0
    · rw [tailU_3 hn hm c0 hv (by omega)] at h0; cases h0
    · rw [tailU_4 hn hm c0 hv]; exact ⟨m + 1 + j, by simp, by omega, by omega⟩
  by_cases c1 : (s.getD m 0).toNat = 1
  · rw [tailU_5 hn hm c1]; exact ⟨m + 1, by simp, by omega, by omega⟩
  · rw [tailU_6 hn hm c0 c1] at h0; cases h0
theorem chkd_range (key s : List UInt8) (h0 : (chkd (tailU key s)).2.2 = 0) : ∃ z : Nat, (chkd (tailU key s)).2.1 = (z : Int) ∧ 1 ≤ z ∧ z ≤ s.length := by
  by_cases h1 : (tailU key s).2.2 = 0
  · cases hi : isE (tailU key s).1 with
    | true =>
      have e : chkd (tailU key s) = ((tailU key s).1, (tailU key s).2.1, 0) := by unfold chkd chkE; rw [h1, hi]; rfl
      rw [e]; exact tailU_range key s h1
    | false =>
      have e : chkd (tailU key s) = (entZ, 0, 10) := by unfold chkd chkE; rw [h1, hi]; rfl
      rw [e] at h0; cases h0
  · have e : chkd (tailU key s) = (entZ, 0, (tailU key s).2.2) := if_pos h1
    rw [e] at h0; exact absurd h0 h1
end Go.Proofs.Ytiingkpdodbldaa

set_option maxRecDepth 100000
set_option maxHeartbeats 8000000
set_option linter.all false
namespace Go.Proofs.Ytiingkpdodbldaa
open Go Go.Ev
theorem newest_ok {h : H} {v : V} {L : List Ent} {key : List UInt8} {seq : Int} (hL : Es h v L) (hl : L.length ≤ 9223372036854775807) (hf : B.val h.floor ≤ B.val h.next) : FnOk Try.prog 68 [v, sv key, .i .i64 seq] h fun y h' => y = twoE (newestE L key seq) ∧ Stay nowhere h h' := by
  refine fn_go c68 (by intro hb; cases hb) (by simp) (by simp) fun Q hQ => ?_
  simp only [slotsF, Nat.reduceAdd]
  repeat' (first
    | refine St.h ?_
    | simp (disch := first | omega | (simp only [lnv]; omega)) only [wlk, ↓get_put', ↓reduceIte, seval]
    | (with_reducible (first | apply cd_split | apply gd_split)) <;> (intro hc; (try simp only [hcn] at hc); (try simp only [hc]); (try simp only [hcl] at hc); try omega))
  refine AL.own (by simp) hf fun h1 s1 n1 o1 => ?_
  have hf1 := s1.fl hf
  repeat' (first
    | refine St.h ?_
    | simp (disch := first | omega | (simp only [lnv]; omega)) only [wlk, ↓get_put', ↓reduceIte, seval]
    | (with_reducible (first | apply cd_split | apply gd_split)) <;> (intro hc; (try simp only [hcn] at hc); (try simp only [hc]); (try simp only [hcl] at hc); try omega))
  refine CL.stay (sorted_ok (hL.grow s1) hl hf1) fun h2 s2 => ?_
  have hf2 := s2.fl hf1
  have o12 := o1.stay s2 fun h => h
  have s02 := s1.trans s2
  cases hs : sortedE L with
  | false =>
    repeat' (first
      | refine St.h ?_
      | simp (disch := first | omega | (simp only [lnv]; omega)) only [wlk, ↓get_put', ↓reduceIte, seval]
      | (with_reducible (first | apply cd_split | apply gd_split)) <;> (intro hc; (try simp only [hcn] at hc); (try simp only [hc]); (try simp only [hcl] at hc); try omega))
    refine ST.all o12 rfl rfl (by simp) (by simp) fun hz oz sz => ?_
    repeat' (first
      | refine St.h ?_
      | simp (disch := first | omega | (simp only [lnv]; omega)) only [wlk, ↓get_put', ↓reduceIte, seval, oz.ra4]
      | (with_reducible (first | apply cd_split | apply gd_split)) <;> (intro hc; (try simp only [hcn] at hc); (try simp only [hc]); (try simp only [hcl] at hc); try omega))
    subst hQ
    exact ⟨by rw [newest_un hs]; rfl, s02.past' sz fun i hi => by rw [hi]; exact Nat.le_refl _⟩
  | true =>
  repeat' (first
    | refine St.h ?_
    | simp (disch := first | omega | (simp only [lnv]; omega)) only [wlk, ↓get_put', ↓reduceIte, seval]
    | (with_reducible (first | apply cd_split | apply gd_split)) <;> (intro hc; (try simp only [hcn] at hc); (try simp only [hc]); (try simp only [hcl] at hc); try omega))
  refine AL.own (by simp) hf2 fun h3 s3 n3 o3 => ?_
  have hf3 := s3.fl hf2
  have o13 := o12.stay s3 fun h => h
  repeat' (first
    | refine St.h ?_
    | simp (disch := first | omega | (simp only [lnv]; omega)) only [wlk, ↓get_put', ↓reduceIte, seval]
    | (with_reducible (first | apply cd_split | apply gd_split)) <;> (intro hc; (try simp only [hcn] at hc); (try simp only [hc]); (try simp only [hcl] at hc); try omega))
  refine AL.own (by simp) hf3 fun h4 s4 n4 o4 => ?_
  have hf4 := s4.fl hf3
  have o14 := o13.stay s4 fun h => h
  have o34 := o3.stay s4 fun h => h
  repeat' (first
    | refine St.h ?_
    | simp (disch := first | omega | (simp only [lnv]; omega)) only [wlk, ↓get_put', ↓reduceIte, seval]
    | (with_reducible (first | apply cd_split | apply gd_split)) <;> (intro hc; (try simp only [hcn] at hc); (try simp only [hc]); (try simp only [hcl] at hc); try omega))
  refine ST.all o4 rfl rfl (by simp) (by simp) fun h5 o5 s5 => ?_
  have l13 : B.val h.next < B.val h3.next := by have := own_lt' o13; exact this
  have l23 : B.val h2.next < B.val h3.next := by have := own_lt' o3; exact this
  have o15 := o14.stay s5 (b_ne l13)
  have o35 := o34.stay s5 (b_ne l23)
  have s35 : Stay nowhere h3 h5 := s4.past' s5 fun i hi => by rw [hi]; exact Nat.le_refl _
  have s05 := (s02.trans s3).trans s35
  repeat' (first
    | refine St.h ?_
    | simp (disch := first | omega | (simp only [lnv]; omega)) only [wlk, ↓get_put', ↓reduceIte, seval, hL.ln]
    | (with_reducible (first | apply cd_split | apply gd_split)) <;> (intro hc; (try simp only [hcn] at hc); (try simp only [hc]); (try simp only [hcl] at hc); try omega))
  refine Ok.lp (fun m t g => ∃ j : Nat, m = L.length - j ∧ Stay nowhere h5 g ∧ (∀ i, i < j → lessE (L.getD i default) ⟨key, seq, false, []⟩ = true) ∧ j ≤ L.length ∧ get 0 t = v ∧ get 1 t = sv key ∧ get 6 t = .p h.next 0 0 4 ∧ get 8 t = .p h2.next 0 0 4 ∧ get 9 t = .b false ∧ get 10 t = .p h3.next 0 0 4 ∧ get 20 t = v ∧ get 21 t = .i .i64 (L.length : Int) ∧ get 22 t = .i .i64 (j : Int)) L.length ?_ ?_
  · simp (disch := first | omega | (simp only [lnv]; omega)) only [wlk, ↓get_put', ↓reduceIte, seval, hL.ln]
    refine ⟨0, by omega, Stay.refl _ _, fun i hi => by omega, by omega, ?_, ?_, ?_, ?_, ?_, ?_, ?_, ?_, ?_⟩ <;> first | trivial | rfl
  rintro I hI m t g ⟨j, rfl, st, hb, hj, f0, f1, f6, f8, f9, f10, f20, f21, f22⟩
  have hfg := st.fl (s35.fl hf3)
  have s0g := s05.trans st
  have hLg := hL.grow s0g
  have q1 := o15.stay st fun h => h
  have q3 := o35.stay st fun h => h
  have q5 := o5.stay st fun h => h
  repeat' (first
    | refine St.h ?_
    | simp (disch := first | omega | (simp only [lnv]; omega)) only [wlk, ↓get_put', ↓reduceIte, seval, f0, f1, f6, f8, f9, f10, f20, f21, f22, hL.ix, hLg.la, Int.toNat_natCast]
    | (with_reducible (first | apply cd_split | apply gd_split)) <;> (intro hc; (try simp only [hcn] at hc); (try simp only [hc]); (try simp only [hcl] at hc); try omega))
  · refine AL.own (by simp) hfg fun g1 t1 _ p1 => ?_
    have hfg1 := t1.fl hfg
    repeat' (first
      | refine St.h ?_
      | simp (disch := first | omega | (simp only [lnv]; omega)) only [wlk, ↓get_put', ↓reduceIte, seval, f0, f1, f6, f8, f9, f10, f20, f21, f22]
      | (with_reducible (first | apply cd_split | apply gd_split)) <;> (intro hc; (try simp only [hcn] at hc); (try simp only [hc]); (try simp only [hcl] at hc); try omega))
    refine ST.all p1 rfl rfl (by simp) (by simp) fun g2 p2 t2 => ?_
    have t12 : Stay nowhere g g2 := t1.past' t2 fun i hi => by rw [hi]; exact Nat.le_refl _
    have q12 := q1.stay t12 fun h => h
    have q32 := q3.stay t12 fun h => h
    have q52 := q5.stay t12 fun h => h
    have hfg2 := t12.fl hfg
    repeat' (first
      | refine St.h ?_
      | simp (disch := first | omega | (simp only [lnv]; omega)) only [wlk, ↓get_put', ↓reduceIte, seval, f0, f1, f6, f8, f9, f10, f20, f21, f22, p2.row.ln, q52.row.ln]
      | (with_reducible (first | apply cd_split | apply gd_split)) <;> (intro hc; (try simp only [hcn] at hc); (try simp only [hc]); (try simp only [hcl] at hc); try omega))
    refine CL.stay (less_ok (a := L.getD j default) (b := ⟨key, seq, false, []⟩) hfg2) fun g3 t3 => ?_
    have q13 := q12.stay t3 fun h => h
    have q33 := q32.stay t3 fun h => h
    have p3 := p2.stay t3 fun h => h
    have t13 := t12.trans t3
    cases hb1 : lessE (L.getD j default) ⟨key, seq, false, []⟩ with
    | true =>
      repeat' (first
        | refine St.h ?_
        | simp (disch := first | omega | (simp only [lnv]; omega)) only [wlk, ↓get_put', ↓reduceIte, seval, f0, f1, f6, f8, f9, f10, f20, f21, f22]
        | (with_reducible (first | apply cd_split | apply gd_split)) <;> (intro hc; (try simp only [hcn] at hc); (try simp only [hc]); (try simp only [hcl] at hc); try omega))
      refine lp_next hI (L.length - (j + 1)) (by omega) ⟨j + 1, rfl, st.trans t13, fun i hi => ?_, by omega, ?_, ?_, ?_, ?_, ?_, ?_, ?_, ?_, ?_⟩
      · rcases Nat.lt_or_ge i j with h1 | h1
        · exact hb i h1
        · rw [show i = j by omega]; exact hb1
      all_goals first | (simp (disch := first | omega | (simp only [lnv]; omega)) only [wlk, ↓get_put', ↓reduceIte, seval, f0, f1, f6, f8, f9, f10, f20, f21, f22]; done) | (simp (disch := first | omega | (simp only [lnv]; omega)) only [wlk, ↓get_put', ↓reduceIte, seval, f0, f1, f6, f8, f9, f10, f20, f21, f22]; rfl)
    | false =>
      by_cases hk : (L.getD j default).key = key
      · repeat' (first
          | refine St.h ?_
          | simp (disch := first | omega | (simp only [lnv]; omega)) only [wlk, ↓get_put', ↓reduceIte, seval, f0, f1, f6, f8, f9, f10, f20, f21, f22, p3.row.l1, p3.row.ln, hk]
          | (with_reducible (first | apply cd_split | apply gd_split)) <;> (intro hc; (try simp only [hcn] at hc); (try simp only [hc]); (try simp only [hcl] at hc); try omega))
        refine ST.all q33 rfl rfl (by simp) (by simp) fun g4 r4 t4 => ?_
        have l12 : B.val h.next < B.val h2.next := own_lt' o12
        have q14 := q13.stay t4 (b_ne l12)
        repeat' (first
          | refine St.h ?_
          | simp (disch := first | omega | (simp only [lnv]; omega)) only [wlk, ↓get_put', ↓reduceIte, seval, f0, f1, f6, f8, f9, f10, f20, f21, f22, r4.row.ln]
          | (with_reducible (first | apply cd_split | apply gd_split)) <;> (intro hc; (try simp only [hcn] at hc); (try simp only [hc]); (try simp only [hcl] at hc); try omega))
        refine ST.all q14 rfl rfl (by simp) (by simp) fun hz oz sz => ?_
        repeat' (first
          | refine St.h ?_
          | simp (disch := first | omega | (simp only [lnv]; omega)) only [wlk, ↓get_put', ↓reduceIte, seval, oz.ra4, f6]
          | (with_reducible (first | apply cd_split | apply gd_split)) <;> (intro hc; (try simp only [hcn] at hc); (try simp only [hc]); (try simp only [hcl] at hc); try omega))
        subst hQ
        refine ⟨?_, (((s0g.trans t13).past' t4 fun i hi => by rw [hi]; have := s1.next; have := s2.next; omega)).past' sz fun i hi => by rw [hi]; exact Nat.le_refl _⟩
        rw [newest_found hs hb (by omega) hb1 hk]
        unfold twoE entC; rw [hk]
      · repeat' (first
          | refine St.h ?_
          | simp (disch := first | omega | (simp only [lnv]; omega)) only [wlk, ↓get_put', ↓reduceIte, seval, f0, f1, f6, f8, f9, f10, f20, f21, f22, p3.row.l1, p3.row.ln, hk, q33.row.ln]
          | (with_reducible (first | apply cd_split | apply gd_split)) <;> (intro hc; (try simp only [hcn] at hc); (try simp only [hc]); (try simp only [hcl] at hc); try omega))
        refine ST.all q13 rfl rfl (by simp) (by simp) fun hz oz sz => ?_
        repeat' (first
          | refine St.h ?_
          | simp (disch := first | omega | (simp only [lnv]; omega)) only [wlk, ↓get_put', ↓reduceIte, seval, oz.ra4, f6]
          | (with_reducible (first | apply cd_split | apply gd_split)) <;> (intro hc; (try simp only [hcn] at hc); (try simp only [hc]); (try simp only [hcl] at hc); try omega))
        subst hQ
        exact ⟨by rw [newest_past hs hb (by omega) hb1 hk]; rfl, (s0g.trans t13).past' sz fun i hi => by rw [hi]; exact Nat.le_refl _⟩
  · obtain rfl : j = L.length := by omega
    repeat' (first
      | refine St.h ?_
      | simp (disch := first | omega | (simp only [lnv]; omega)) only [wlk, ↓get_put', ↓reduceIte, seval, f6, f8, f9, q3.row.ln]
      | (with_reducible (first | apply cd_split | apply gd_split)) <;> (intro hc; (try simp only [hcn] at hc); (try simp only [hc]); (try simp only [hcl] at hc); try omega))
    refine ST.all q1 rfl rfl (by simp) (by simp) fun hz oz sz => ?_
    repeat' (first
      | refine St.h ?_
      | simp (disch := first | omega | (simp only [lnv]; omega)) only [wlk, ↓get_put', ↓reduceIte, seval, oz.ra4, f6]
      | (with_reducible (first | apply cd_split | apply gd_split)) <;> (intro hc; (try simp only [hcn] at hc); (try simp only [hc]); (try simp only [hcl] at hc); try omega))
    subst hQ
    exact ⟨by rw [newest_end fun j hj => hit_less (hb j hj)]; rfl, s0g.past' sz fun i hi => by rw [hi]; exact Nat.le_refl _⟩
end Go.Proofs.Ytiingkpdodbldaa

set_option maxRecDepth 100000
set_option maxHeartbeats 8000000
set_option linter.all false
namespace Go.Proofs.Ytiingkpdodbldaa
open Go Go.Ev
theorem bytesE_len {e : Ent} : (bytesE e).length ≤ 200 := by
  unfold bytesE
  split
  · rename_i hi
    obtain ⟨k1, k2, k3, k4⟩ := isE_len hi
    have l1 := textB_len e.key (by omega)
    have l2 := textB_len e.val (by omega)
    have l3 := numB_len (n := e.seq.toNat) (by omega)
    rw [List.length_append]
    unfold tailB; rw [List.length_append]; split <;> simp <;> omega
  · simp
theorem tail_back {e : Ent} (hi : isE e = true) (more : List UInt8) : tailU e.key (tailB e ++ more) = (e, ((tailB e).length : Int), 0) := by
  obtain ⟨⟨s1, s2⟩, k1, k2, k3, k4⟩ := isE_iff.1 hi
  obtain ⟨key, seq, del, val⟩ := e
  simp only at s1 s2 k1 k2 k3 k4 ⊢
  have hq : ((seq.toNat : Nat) : Int) = seq := by omega
  cases del with
  | true =>
    obtain rfl := k4 rfl
    have e1 : tailB ⟨key, seq, true, []⟩ ++ more = numB seq.toNat ++ (1 :: more) := by unfold tailB; simp
    have e2 : ((tailB ⟨key, seq, true, []⟩).length : Int) = ((numB seq.toNat).length : Int) + 1 := by unfold tailB; simp
    have hn : takeN (numB seq.toNat ++ (1 :: more)) = ((seq.toNat : Int), ((numB seq.toNat).length : Int), 0) := takeN_numB (by omega) _
    rw [e1, tailU_5 hn (by simp) (by simp [List.getD]), hq, e2]
  | false =>
    have e1 : tailB ⟨key, seq, false, val⟩ ++ more = numB seq.toNat ++ (0 :: (textB val ++ more)) := by unfold tailB; simp
    have e2 : ((tailB ⟨key, seq, false, val⟩).length : Int) = ((numB seq.toNat).length : Int) + 1 + ((textB val).length : Int) := by unfold tailB; simp; omega
    have hn : takeN (numB seq.toNat ++ (0 :: (textB val ++ more))) = ((seq.toNat : Int), ((numB seq.toNat).length : Int), 0) := takeN_numB (by omega) _
    have hd : (numB seq.toNat ++ (0 :: (textB val ++ more))).drop ((numB seq.toNat).length + 1) = textB val ++ more := by
      rw [← List.drop_drop, List.drop_left]; rfl
    rw [e1, tailU_4 hn (by simp) (by simp [List.getD]) (by rw [hd]; exact takeT_textB (by omega)), hq, e2]
theorem take_back {e : Ent} (hi : isE e = true) (more : List UInt8) : takeE (bytesE e ++ more) = (e, ((bytesE e).length : Int), 0) := by
  obtain ⟨k1, k2, k3, k4⟩ := isE_len hi
  have hb : bytesE e = textB e.key ++ tailB e := by unfold bytesE; rw [hi]; rfl
  have hc : takeT (textB e.key ++ (tailB e ++ more)) = (e.key, ((textB e.key).length : Int), 0) := takeT_textB (by omega)
  have hd : (textB e.key ++ (tailB e ++ more)).drop (textB e.key).length = tailB e ++ more := List.drop_left
  rw [hb, List.append_assoc, takeE_4 hc (by rw [hd]; exact tail_back hi more), List.length_append]
  simp
theorem read_back {e : Ent} (hi : isE e = true) (more : List UInt8) : readE (bytesE e ++ more) = (e, ((bytesE e).length : Int), 0) := by
  have h := take_back hi more
  rw [readE_3 (by rw [h]) (by rw [h]; exact hi), h]
end Go.Proofs.Ytiingkpdodbldaa

set_option linter.all false
namespace Go.Proofs.Ytiingkpdodbldaa
open Go Go.Ev
theorem step_back {p : List UInt8} {e : Ent} (hi : isE e = true) (more : List UInt8) : stepE p (oneB p e ++ more) = some (e, (oneB p e).length) := by
  obtain ⟨k1, k2, k3, k4⟩ := isE_len hi
  have hs := sharedB_le e.key p
  have htk := sharedB_take e.key p
  have hone : oneB p e = numB (sharedB e.key p) ++ textB (e.key.drop (sharedB e.key p)) ++ tailB e := rfl
  generalize sharedB e.key p = n at *
  have e1 : oneB p e ++ more = numB n ++ (textB (e.key.drop n) ++ (tailB e ++ more)) := by rw [hone]; simp [List.append_assoc]
  have hN : takeN (oneB p e ++ more) = ((n : Int), ((numB n).length : Int), 0) := by rw [e1]; exact takeN_numB (by omega) _
  have hd1 : (oneB p e ++ more).drop (numB n).length = textB (e.key.drop n) ++ (tailB e ++ more) := by rw [e1, List.drop_left]
  have hT : takeT ((oneB p e ++ more).drop (numB n).length) = (e.key.drop n, ((textB (e.key.drop n)).length : Int), 0) := by
    rw [hd1]; exact takeT_textB (by rw [List.length_drop]; omega)
  have hd2 : (oneB p e ++ more).drop ((numB n).length + (textB (e.key.drop n)).length) = tailB e ++ more := by rw [← List.drop_drop, hd1, List.drop_left]
  have hk : p.take n ++ e.key.drop n = e.key := by rw [← htk, List.take_append_drop]
  have hc : chkd (tailU (p.take n ++ e.key.drop n) ((oneB p e ++ more).drop ((numB n).length + (textB (e.key.drop n)).length))) = (e, ((tailB e).length : Int), 0) := by
    rw [hk, hd2, tail_back hi more]; exact chkd_ok hi
  rw [stepE_5 hN hs.2 hT hc, hone, List.length_append, List.length_append]
theorem one_ne (p : List UInt8) (e : Ent) : oneB p e ≠ [] := by unfold oneB numB; simp
theorem one_pos (p : List UInt8) (e : Ent) : 1 ≤ (oneB p e).length := by
  have h := one_ne p e
  cases hx : oneB p e with
  | nil => exact absurd hx h
  | cons c l => simp
theorem prs_back : ∀ {L : List Ent} {p : List UInt8} {f : Nat}, L.all isE = true → (bodyB p L).length ≤ f → prsE f p (bodyB p L) = some L
  | [], p, f, _, _ => prsE_nil f p
  | e :: L, p, f, h, hf => by
    rw [List.all_cons, Bool.and_eq_true] at h
    have e1 : bodyB p (e :: L) = oneB p e ++ bodyB e.key L := rfl
    have h1 := one_pos p e
    rw [e1, List.length_append] at hf
    obtain ⟨f, rfl⟩ : ∃ g, f = g + 1 := ⟨f - 1, by omega⟩
    rw [e1, prsE_some (by intro h; exact one_ne p e (List.append_eq_nil_iff.1 h).1) (step_back h.1 _), List.drop_left, prs_back h.2 (by omega)]
    rfl
theorem readB_back {L : List Ent} (h : L.all isE = true) (hn : L ≠ []) (hs : sortedE L = true) (hl : L.length ≤ 10000) : readB (sealB (bodyB [] L)) = (L, 0) := by
  have hb := bodyB_len (p := []) h
  have hO : openB (sealB (bodyB [] L)) = (bodyB [] L, ((sealB (bodyB [] L)).length : Int), 0) := by
    have := openB_seal (l := bodyB [] L) (more := []) (by omega)
    rwa [List.append_nil] at this
  rw [readB_4 hO rfl (prs_back h (Nat.le_refl _)), blkE_ok h hn hs]
  simp
/-- what is read is what is made of it -/
theorem readB_made {s : List UInt8} (h : (readB s).2 = 0) : blkE (readB s).1 = (s, 0) := by
  unfold readB at h ⊢
  split at h
  · rename_i h1; exact absurd h h1
  · rename_i h1
    rw [if_neg h1] at *
    split at h
    · cases h
    · rename_i h2
      rw [if_neg h2]
      split at h
      · cases h
      · rename_i L hp
        split at h
        · rename_i h3; rw [if_pos h3]; exact Prod.ext h3.2 h3.1
        · cases h
theorem readB_none {s : List UInt8} (h : (readB s).2 ≠ 0) : (readB s).1 = [] := by
  unfold readB at h ⊢
  split
  · rfl
  · split
    · rfl
    · split
      · rfl
      · split
        · rename_i h1 h2 _ L hp h3
          rw [if_neg h1, if_neg h2, hp] at h
          simp only [h3, and_self, if_true] at h
          exact absurd rfl h
        · rfl
end Go.Proofs.Ytiingkpdodbldaa

set_option linter.all false
namespace Go.Ev
open Go
def hashStep (p : Nat × Nat) (c : UInt8) : Nat × Nat := ((p.1 * 33 + c.toNat) % 4294967296, (p.2 * 31 % 4294967296) ^^^ c.toNat)
def hashU (l : List UInt8) : Nat × Nat := l.foldl hashStep (5381, 52711)
def hashB (l : List UInt8) : Nat × Nat := ((hashU l).1, (hashU l).2 ||| 1)
theorem hashU_lt (l : List UInt8) : (hashU l).1 < 4294967296 ∧ (hashU l).2 < 4294967296 := by
  unfold hashU
  have key : ∀ (l : List UInt8) (p : Nat × Nat), p.1 < 4294967296 ∧ p.2 < 4294967296 → (l.foldl hashStep p).1 < 4294967296 ∧ (l.foldl hashStep p).2 < 4294967296 := by
    intro l
    induction l with
    | nil => intro p h; exact h
    | cons c l ih =>
      intro p h
      refine ih _ ⟨Nat.mod_lt _ (by omega), ?_⟩
      have hc := c.toNat_lt
      have := Nat.xor_lt_two_pow (n := 32) (show p.2 * 31 % 4294967296 < 2 ^ 32 from Nat.mod_lt _ (by omega)) (show c.toNat < 2 ^ 32 by omega)
      exact this
  exact key l _ ⟨by decide, by decide⟩
theorem hashB_lt (l : List UInt8) : (hashB l).1 < 4294967296 ∧ (hashB l).2 < 4294967296 := by
  have ⟨h1, h2⟩ := hashU_lt l
  refine ⟨h1, ?_⟩
  have := Nat.or_lt_two_pow (n := 32) h2 (show 1 < 2 ^ 32 by omega)
  exact this
theorem hashU_take {l : List UInt8} {i : Nat} (hi : i < l.length) : hashU (l.take (i + 1)) = hashStep (hashU (l.take i)) (l.getD i 0) := by
  unfold hashU
  rw [List.take_succ_eq_append_getElem hi, List.foldl_append]
  simp [List.getD, hi]
/-- the q-th bit's place in n bytes -/
def spot (key : List UInt8) (n q : Nat) : Nat := ((hashB key).1 + q * (hashB key).2) % (8 * n)
theorem spot_lt {key : List UInt8} {n q : Nat} (hn : 0 < n) : spot key n q < 8 * n := Nat.mod_lt _ (by omega)
def bitB (s : List UInt8) (k : Nat) : Bool := (s.getD (k / 8) 0).toNat.testBit (k % 8)
/-- one bit is put -/
def putBit (s : List UInt8) (k : Nat) : List UInt8 := s.set (k / 8) (UInt8.ofNat ((s.getD (k / 8) 0).toNat ||| 2 ^ (k % 8)))
theorem putBit_len (s : List UInt8) (k : Nat) : (putBit s k).length = s.length := List.length_set
theorem byte_or {x i : Nat} (hx : x < 256) (hi : i < 8) : x ||| 2 ^ i < 256 := by
  have h1 : 2 ^ i < 2 ^ 8 := Nat.pow_lt_pow_right (by omega) hi
  exact Nat.or_lt_two_pow (n := 8) hx h1
theorem bit_put {s : List UInt8} {k j : Nat} (hk : k < 8 * s.length) : bitB (putBit s k) j = (bitB s j || decide (j = k)) := by
  unfold bitB putBit
  have hlt := (s.getD (k / 8) 0).toNat_lt
  by_cases e : j / 8 = k / 8
  · rw [e]
    have hi : k / 8 < s.length := by omega
    have e1 : (s.set (k / 8) (UInt8.ofNat ((s.getD (k / 8) 0).toNat ||| 2 ^ (k % 8)))).getD (k / 8) 0 = UInt8.ofNat ((s.getD (k / 8) 0).toNat ||| 2 ^ (k % 8)) := by simp [List.getD, hi]
    rw [e1, UInt8.toNat_ofNat', Nat.mod_eq_of_lt (byte_or (by omega) (by omega)), Nat.testBit_or, Nat.testBit_two_pow]
    congr 1
    by_cases e2 : j = k
    · subst e2; simp
    · rw [decide_eq_false e2, decide_eq_false (by omega)]
  · have e1 : (s.set (k / 8) (UInt8.ofNat ((s.getD (k / 8) 0).toNat ||| 2 ^ (k % 8)))).getD (j / 8) 0 = s.getD (j / 8) 0 := by
      simp only [List.getD_eq_getElem?_getD]
      rw [List.getElem?_set_ne (fun h => e h.symm)]
    rw [e1, decide_eq_false (by intro h; subst h; exact e rfl), Bool.or_false]
theorem bit_zero (n k : Nat) : bitB (List.replicate n 0) k = false := by
  unfold bitB
  have : (List.replicate n (0 : UInt8)).getD (k / 8) 0 = 0 := by
    simp only [List.getD_eq_getElem?_getD, List.getElem?_replicate]
    split <;> rfl
  rw [this]; simp
/-- a key is put -/
def putKey (s key : List UInt8) (q : Nat) : List UInt8 := (List.range q).foldl (fun s q => putBit s (spot key s.length q)) s
theorem putKey_len (s key : List UInt8) (q : Nat) : (putKey s key q).length = s.length := by
  unfold putKey
  induction q with
  | zero => rfl
  | succ q ih => rw [List.range_succ, List.foldl_append]; simp only [List.foldl_cons, List.foldl_nil]; rw [putBit_len, ih]
theorem putKey_succ (s key : List UInt8) (q : Nat) : putKey s key (q + 1) = putBit (putKey s key q) (spot key s.length q) := by
  have := putKey_len s key q
  unfold putKey at *
  rw [List.range_succ, List.foldl_append]; simp only [List.foldl_cons, List.foldl_nil]; rw [this]
theorem bit_putKey {s key : List UInt8} (hs : 0 < s.length) {j : Nat} : ∀ q, bitB (putKey s key q) j = true ↔ bitB s j = true ∨ ∃ p, p < q ∧ spot key s.length p = j := by
  intro q
  induction q with
  | zero => constructor
            · exact fun h => .inl h
            · rintro (h | ⟨p, hp, _⟩)
              · exact h
              · omega
  | succ q ih =>
    rw [putKey_succ, bit_put (by rw [putKey_len]; exact spot_lt hs), Bool.or_eq_true, ih, decide_eq_true_eq]
    constructor
    · rintro ((h | ⟨p, hp, e⟩) | e)
      · exact .inl h
      · exact .inr ⟨p, by omega, e⟩
      · exact .inr ⟨q, by omega, e.symm⟩
    · rintro (h | ⟨p, hp, e⟩)
      · exact .inl (.inl h)
      · by_cases hq : p = q
        · subst hq; exact .inr e.symm
        · exact .inl (.inr ⟨p, by omega, e⟩)
def putKeys (s : List UInt8) (l : List (List UInt8)) : List UInt8 := l.foldl (fun s k => putKey s k 4) s
theorem putKeys_len (l : List (List UInt8)) : ∀ s, (putKeys s l).length = s.length := by
  unfold putKeys
  induction l with
  | nil => intro s; rfl
  | cons k l ih => intro s; rw [List.foldl_cons, ih, putKey_len]
theorem putKeys_snoc (s : List UInt8) (l : List (List UInt8)) (k : List UInt8) : putKeys s (l ++ [k]) = putKey (putKeys s l) k 4 := by unfold putKeys; rw [List.foldl_append]; rfl
theorem bit_putKeys {l : List (List UInt8)} {j : Nat} : ∀ {s : List UInt8}, 0 < s.length → (bitB (putKeys s l) j = true ↔ bitB s j = true ∨ ∃ k ∈ l, ∃ p, p < 4 ∧ spot k s.length p = j) := by
  induction l with
  | nil => intro s hs; constructor
           · exact fun h => .inl h
           · rintro (h | ⟨k, hk, _⟩)
             · exact h
             · cases hk
  | cons k l ih =>
    intro s hs
    have e : putKeys s (k :: l) = putKeys (putKey s k 4) l := rfl
    have hl := putKey_len s k 4
    rw [e, ih (by omega), bit_putKey hs, hl]
    constructor
    · rintro ((h | ⟨p, hp, e2⟩) | ⟨k', hk', p, hp, e2⟩)
      · exact .inl h
      · exact .inr ⟨k, by simp, p, hp, e2⟩
      · exact .inr ⟨k', by simp [hk'], p, hp, e2⟩
    · rintro (h | ⟨k', hk', p, hp, e2⟩)
      · exact .inl (.inl h)
      · rcases List.mem_cons.1 hk' with rfl | hk'
        · exact .inl (.inr ⟨p, hp, e2⟩)
        · exact .inr ⟨k', hk', p, hp, e2⟩
/-- the sieve of keys -/
def sieveB (l : List (List UInt8)) : List UInt8 := putKeys (List.replicate (max 8 l.length) 0) l
theorem sieveB_len (l : List (List UInt8)) : (sieveB l).length = max 8 l.length := by unfold sieveB; rw [putKeys_len, List.length_replicate]
theorem bit_sieve {l : List (List UInt8)} {j : Nat} : bitB (sieveB l) j = true ↔ ∃ k ∈ l, ∃ p, p < 4 ∧ spot k (max 8 l.length) p = j := by
  unfold sieveB
  rw [bit_putKeys (by rw [List.length_replicate]; omega), bit_zero, List.length_replicate]
  simp
def mayB (s key : List UInt8) : Bool := if s.length = 0 then true else (List.range 4).all fun q => bitB s (spot key s.length q)
theorem mayB_put {l : List (List UInt8)} {k : List UInt8} (h : k ∈ l) : mayB (sieveB l) k = true := by
  unfold mayB
  split
  · rfl
  · rw [List.all_eq_true]
    intro q hq
    rw [List.mem_range] at hq
    rw [bit_sieve, sieveB_len]
    exact ⟨k, h, q, hq, rfl⟩
theorem bit_rd (s : List UInt8) (k : Nat) : bitB s k = decide ((((s.getD (k / 8) 0).toNat / 2 ^ (k % 8)) &&& 1 : Nat) ≠ 0) := by
  unfold bitB
  rw [Nat.testBit, Nat.shiftRight_eq_div_pow, Nat.and_comm]
  generalize (s.getD (k / 8) 0).toNat / 2 ^ (k % 8) &&& 1 = z
  by_cases h : z = 0 <;> simp [h]
end Go.Ev

set_option linter.all false
namespace Go.Proofs.Ytiingkpdodbldaa
open Go Go.Ev
/-- entries in blocks: the block at hand, what is left -/
def blkGo : List Ent → List Ent → List (List Ent)
  | c, [] => [c]
  | c, e :: r => if 200 < (blkE (c ++ [e])).1.length then c :: blkGo [e] r else blkGo (c ++ [e]) r
def blksE : List Ent → List (List Ent)
  | [] => []
  | e :: r => blkGo [e] r
theorem blkGo_nil (c : List Ent) : blkGo c [] = [c] := rfl
theorem blkGo_big {c r : List Ent} {e : Ent} (h : 200 < (blkE (c ++ [e])).1.length) : blkGo c (e :: r) = c :: blkGo [e] r := if_pos h
theorem blkGo_fit {c r : List Ent} {e : Ent} (h : (blkE (c ++ [e])).1.length ≤ 200) : blkGo c (e :: r) = blkGo (c ++ [e]) r := if_neg (by omega)
theorem blkGo_flat : ∀ (r c : List Ent), (blkGo c r).flatten = c ++ r
  | [], c => by simp [blkGo]
  | e :: r, c => by
    unfold blkGo
    split
    · rw [List.flatten_cons, blkGo_flat r [e]]; simp
    · rw [blkGo_flat r]; simp
theorem blksE_flat : ∀ L : List Ent, (blksE L).flatten = L
  | [] => rfl
  | e :: r => by show (blkGo [e] r).flatten = _; rw [blkGo_flat]; rfl
theorem blkGo_ne : ∀ (r c : List Ent), c ≠ [] → ∀ b ∈ blkGo c r, b ≠ []
  | [], c, hc, b, hb => by simp [blkGo] at hb; rw [hb]; exact hc
  | e :: r, c, hc, b, hb => by
    unfold blkGo at hb
    split at hb
    · rcases List.mem_cons.1 hb with h | h
      · rw [h]; exact hc
      · exact blkGo_ne r [e] (by simp) b h
    · exact blkGo_ne r (c ++ [e]) (by simp) b hb
theorem blksE_ne : ∀ {L : List Ent}, ∀ b ∈ blksE L, b ≠ []
  | [], b, hb => by cases hb
  | e :: r, b, hb => blkGo_ne r [e] (by simp) b hb
theorem blkGo_pos : ∀ (r c : List Ent), 1 ≤ (blkGo c r).length
  | [], c => by simp [blkGo]
  | e :: r, c => by
    unfold blkGo
    split
    · simp
    · exact blkGo_pos r _
theorem blksE_pos {L : List Ent} (h : L ≠ []) : 1 ≤ (blksE L).length := by
  cases L with
  | nil => exact absurd rfl h
  | cons e r => exact blkGo_pos r [e]
theorem flat_len : ∀ {bs : List (List Ent)}, (∀ b ∈ bs, b ≠ []) → bs.length ≤ bs.flatten.length
  | [], _ => by simp
  | b :: bs, h => by
    have ih := flat_len (bs := bs) fun b hb => h b (List.mem_cons_of_mem _ hb)
    have : b ≠ [] := h b (by simp)
    have : 1 ≤ b.length := by cases b with | nil => exact absurd rfl this | cons => simp
    rw [List.flatten_cons, List.length_append, List.length_cons]; omega
theorem blksE_len (L : List Ent) : (blksE L).length ≤ L.length := by
  have := flat_len (blksE_ne (L := L))
  rwa [blksE_flat] at this
theorem sorted_iff {L : List Ent} : sortedE L = true ↔ ∀ i, i + 1 < L.length → lessE (L.getD i default) (L.getD (i + 1) default) = true := by
  constructor
  · exact fun h i hi => srtU_at h (by omega)
  · intro h
    unfold sortedE srtU
    rw [List.all_eq_true]
    exact fun i hi => h i (by rw [List.mem_range] at hi; omega)
theorem sorted_app {A C : List Ent} (h : sortedE (A ++ C) = true) : sortedE A = true ∧ sortedE C = true := by
  rw [sorted_iff] at h
  refine ⟨sorted_iff.2 fun i hi => ?_, sorted_iff.2 fun i hi => ?_⟩
  · have := h i (by rw [List.length_append]; omega)
    simpa [List.getD, List.getElem?_append, hi, show i < A.length by omega] using this
  · have := h (A.length + i) (by rw [List.length_append]; omega)
    simpa [List.getD, List.getElem?_append, show ¬ A.length + i + 1 < A.length by omega, show ¬ A.length + i < A.length by omega, show A.length + i + 1 - A.length = i + 1 by omega] using this
/-- a block's bytes -/
def blkB (b : List Ent) : List UInt8 := (blkE b).1
def bodyT (bs : List (List Ent)) : List UInt8 := (bs.map blkB).flatten
def firstK (b : List Ent) : List UInt8 := (b.getD 0 default).key
def lastK (b : List Ent) : List UInt8 := (b.getD (b.length - 1) default).key
def oneIx (b : List Ent) : List UInt8 := numB (blkB b).length ++ textB (firstK b) ++ textB (lastK b)
/-- the keys of the first n entries, each once -/
def keysU (L : List Ent) : Nat → List (List UInt8)
  | 0 => []
  | n + 1 => keysU L n ++ if n = 0 ∨ (L.getD (n - 1) default).key ≠ (L.getD n default).key then [(L.getD n default).key] else []
def keysE (L : List Ent) : List (List UInt8) := keysU L L.length
theorem keysU_len (L : List Ent) : ∀ n, (keysU L n).length ≤ n
  | 0 => by simp [keysU]
  | n + 1 => by
    have := keysU_len L n
    unfold keysU
    rw [List.length_append]
    split <;> simp <;> omega
theorem keysU_mem {L : List Ent} : ∀ {n : Nat} {k : List UInt8}, k ∈ keysU L n ↔ ∃ i, i < n ∧ (L.getD i default).key = k
  | 0, k => by simp [keysU]
  | n + 1, k => by
    unfold keysU
    rw [List.mem_append, keysU_mem (n := n)]
    constructor
    · rintro (⟨i, hi, e⟩ | h)
      · exact ⟨i, by omega, e⟩
      · split at h
        · exact ⟨n, by omega, (List.mem_singleton.1 h).symm⟩
        · cases h
    · rintro ⟨i, hi, e⟩
      by_cases hin : i = n
      · subst hin
        split
        · exact .inr (by rw [e]; simp)
        · rename_i hx
          have hx : ¬ i = 0 ∧ (L.getD (i - 1) default).key = (L.getD i default).key := by
            constructor
            · exact fun h => hx (.inl h)
            · exact Classical.byContradiction fun h => hx (.inr h)
          exact .inl ⟨i - 1, by omega, by rw [hx.2, e]⟩
      · exact .inl ⟨i, by omega, e⟩
theorem keysE_mem {L : List Ent} {k : List UInt8} : k ∈ keysE L ↔ ∃ e ∈ L, e.key = k := by
  unfold keysE
  rw [keysU_mem]
  constructor
  · rintro ⟨i, hi, e⟩
    exact ⟨L.getD i default, by rw [List.getD_eq_getElem?_getD, List.getElem?_eq_getElem hi]; simp, e⟩
  · rintro ⟨e, he, hk⟩
    obtain ⟨i, hi, rfl⟩ := List.getElem_of_mem he
    exact ⟨i, hi, by rw [List.getD_eq_getElem?_getD, List.getElem?_eq_getElem hi]; exact hk⟩
/-- the index, the table -/
def idxB (L : List Ent) : List UInt8 := numB L.length ++ numB (blksE L).length ++ ((blksE L).map oneIx).flatten
def tabB (L : List Ent) : List UInt8 := bodyT (blksE L) ++ sealB (idxB L) ++ sealB (sieveB (keysE L)) ++ fourB (bodyT (blksE L)).length
def tabE (L : List Ent) : List UInt8 × Int := if (blkE L).2 ≠ 0 then ([], (blkE L).2) else (tabB L, 0)
theorem tabE_bad {L : List Ent} (h : (blkE L).2 ≠ 0) : tabE L = ([], (blkE L).2) := if_pos h
theorem tabE_ok {L : List Ent} (h : (blkE L).2 = 0) : tabE L = (tabB L, 0) := if_neg (by simp [h])
theorem blkE_zero {L : List Ent} : (blkE L).2 = 0 ↔ L.all isE = true ∧ L ≠ [] ∧ sortedE L = true := by
  constructor
  · intro h
    cases ha : L.all isE with
    | false => rw [blkE_bad ha] at h; cases h
    | true =>
      by_cases hn : L = []
      · rw [hn, blkE_nil] at h; cases h
      · cases hs : sortedE L with
        | false => rw [blkE_un ha hn hs] at h; cases h
        | true => exact ⟨rfl, hn, rfl⟩
  · rintro ⟨a, b, c⟩; rw [blkE_ok a b c]
/-- a block is one -/
def okB (b : List Ent) : Prop := b.all isE = true ∧ b ≠ [] ∧ sortedE b = true
theorem okB_part {A C : List Ent} (h : okB (A ++ C)) (hA : A ≠ []) : okB A := by
  obtain ⟨h1, h2, h3⟩ := h
  rw [List.all_append, Bool.and_eq_true] at h1
  exact ⟨h1.1, hA, (sorted_app h3).1⟩
theorem okB_rest {A C : List Ent} (h : okB (A ++ C)) (hC : C ≠ []) : okB C := by
  obtain ⟨h1, h2, h3⟩ := h
  rw [List.all_append, Bool.and_eq_true] at h1
  exact ⟨h1.2, hC, (sorted_app h3).2⟩
theorem flat_ok : ∀ {bs : List (List Ent)}, okB bs.flatten → (∀ b ∈ bs, b ≠ []) → ∀ b ∈ bs, okB b
  | [], _, _, b, hb => by cases hb
  | c :: bs, h, hn, b, hb => by
    rw [List.flatten_cons] at h
    have hc : c ≠ [] := hn c (by simp)
    rcases List.mem_cons.1 hb with e | e
    · rw [e]; exact okB_part h hc
    · have hne : bs.flatten ≠ [] := by
        intro h0
        have : b ≠ [] := hn b hb
        rw [List.flatten_eq_nil_iff] at h0
        exact this (h0 b e)
      exact flat_ok (okB_rest h hne) (fun b hb => hn b (List.mem_cons_of_mem _ hb)) b e
theorem blks_ok {L : List Ent} (h : okB L) : ∀ b ∈ blksE L, okB b := flat_ok (by rw [blksE_flat]; exact h) blksE_ne
theorem blkB_ok {b : List Ent} (h : okB b) : blkB b = sealB (bodyB [] b) := by unfold blkB; rw [blkE_ok h.1 h.2.1 h.2.2]
theorem blkB_read {b : List Ent} (h : okB b) (hl : b.length ≤ 10000) : readB (blkB b) = (b, 0) := by rw [blkB_ok h]; exact readB_back h.1 h.2.1 h.2.2 hl
theorem blkE_len {L : List Ent} (hl : L.length ≤ 100000) : (blkE L).1.length ≤ 80 * L.length + 13 := by
  unfold blkE
  split
  · simp
  · split
    · simp
    · rename_i h1 h2
      have h1 : L.all isE = true := by
        cases ha : L.all isE with
        | true => rfl
        | false => exact absurd (.inl ha) h1
      have := bodyB_len (p := []) h1
      have h9 := numB_len (n := (bodyB [] L).length) (by omega)
      show (sealB (bodyB [] L)).length ≤ _
      rw [sealB_len]; omega
theorem getD_mem {L : List (List Ent)} {i : Nat} (hi : i < L.length) : L.getD i [] ∈ L := by
  rw [List.getD_eq_getElem?_getD, List.getElem?_eq_getElem hi]; simp
theorem flat_le : ∀ {bs : List (List Ent)} {b : List Ent}, b ∈ bs → b.length ≤ bs.flatten.length
  | c :: bs, b, hb => by
    rw [List.flatten_cons, List.length_append]
    rcases List.mem_cons.1 hb with e | e
    · rw [e]; omega
    · have := flat_le e; omega
theorem bodyT_len : ∀ {bs : List (List Ent)}, (∀ b ∈ bs, b ≠ []) → bs.flatten.length ≤ 100000 → (bodyT bs).length ≤ 93 * bs.flatten.length
  | [], _, _ => by simp [bodyT]
  | b :: bs, h, hl => by
    rw [List.flatten_cons, List.length_append] at hl
    have ih := bodyT_len (bs := bs) (fun b hb => h b (List.mem_cons_of_mem _ hb)) (by omega)
    have h1 : b ≠ [] := h b (by simp)
    have h2 : 1 ≤ b.length := by cases b with | nil => exact absurd rfl h1 | cons => simp
    have h3 := blkE_len (L := b) (by omega)
    have e : bodyT (b :: bs) = blkB b ++ bodyT bs := rfl
    have e2 : (blkB b).length = (blkE b).1.length := rfl
    rw [e, List.length_append, List.flatten_cons, List.length_append]
    omega
theorem bodyT_succ {bs : List (List Ent)} {i : Nat} (hi : i < bs.length) : bodyT (bs.take (i + 1)) = bodyT (bs.take i) ++ blkB (bs.getD i []) := by
  unfold bodyT; rw [List.take_succ, List.map_append, List.flatten_append]; congr 1; simp [List.getD, hi]
/-- the index up to there -/
def idxU (L : List Ent) (n : Nat) : List UInt8 := numB L.length ++ numB (blksE L).length ++ (((blksE L).take n).map oneIx).flatten
theorem idxU_succ {L : List Ent} {i : Nat} (hi : i < (blksE L).length) : idxU L (i + 1) = idxU L i ++ oneIx ((blksE L).getD i []) := by
  unfold idxU; rw [List.take_succ, List.map_append, List.flatten_append, ← List.append_assoc]; congr 1; simp [List.getD, hi]
theorem idxU_all (L : List Ent) : idxU L (blksE L).length = idxB L := by unfold idxU idxB; rw [List.take_length]
theorem okB_key {b : List Ent} (h : okB b) {i : Nat} (hi : i < b.length) : 1 ≤ (b.getD i default).key.length ∧ (b.getD i default).key.length ≤ 13 := by
  have h1 : isE (b.getD i default) = true := by
    have := List.all_eq_true.1 h.1 (b.getD i default) (by rw [List.getD_eq_getElem?_getD, List.getElem?_eq_getElem hi]; simp)
    exact this
  obtain ⟨_, k1, k2, _⟩ := isE_iff.1 h1
  exact ⟨k1, k2⟩
theorem okB_pos {b : List Ent} (h : okB b) : 1 ≤ b.length := by
  cases b with
  | nil => exact absurd rfl h.2.1
  | cons => simp
theorem textB_le {l : List UInt8} (h : l.length ≤ 13) : (textB l).length ≤ 22 := by
  have := numB_len (n := l.length) (by omega)
  unfold textB; rw [List.length_append]; omega
theorem oneIx_len {b : List Ent} (h : okB b) (hl : b.length ≤ 1000) : (oneIx b).length ≤ 53 := by
  have h1 := okB_pos h
  have h2 := textB_le (okB_key h (i := 0) (by omega)).2
  have h3 := textB_le (okB_key h (i := b.length - 1) (by omega)).2
  have h4 := blkE_len (L := b) (by omega)
  have h5 := numB_len (n := (blkB b).length) (by show (blkE b).1.length ≤ _; omega)
  unfold oneIx firstK lastK; rw [List.length_append, List.length_append]; omega
theorem blks_each {L : List Ent} {i : Nat} (hi : i < (blksE L).length) : ((blksE L).getD i []).length ≤ L.length := by
  have := flat_le (getD_mem hi)
  rwa [blksE_flat] at this
theorem idxU_len {L : List Ent} (h : okB L) (hl : L.length ≤ 1000) : ∀ n, n ≤ (blksE L).length → (idxU L n).length ≤ 18 + 53 * n
  | 0, _ => by
    have h1 := numB_len (n := L.length) (by omega)
    have h2 := blksE_len L
    have h3 := numB_len (n := (blksE L).length) (by omega)
    unfold idxU; simp; omega
  | n + 1, hn => by
    have ih := idxU_len h hl n (by omega)
    have h1 := oneIx_len (blks_ok h _ (getD_mem (i := n) (by omega))) (by have := blks_each (L := L) (i := n) (by omega); omega)
    rw [idxU_succ (by omega), List.length_append]; omega
/-- what is in a range -/
def inR (fr to : List UInt8) (e : Ent) : Bool := !Op.bytesLess e.key fr && (decide (to = []) || Op.bytesLess e.key to)
def rangeE (L : List Ent) (fr to : List UInt8) : List Ent := L.filter (inR fr to)
theorem rangeE_le (L : List Ent) (fr to : List UInt8) : (rangeE L fr to).length ≤ L.length := List.length_filter_le ..
theorem es_l00 {P : Program} {h : H} {N : Nx} {v : V} {L : List Ent} (a : Es h v L) (hi : 0 < L.length) : L1 P (lid v) (lg v) (loff v) (lfin v) h N = N.go P (sv (L.getD 0 default).key) h := by
  have := a.l0 (P := P) (N := N) hi
  rwa [Nat.zero_mul, Nat.add_zero] at this
/-- a block, as it lies -/
structure Bk where
  v : V
  l : List Ent
instance : Inhabited Bk := ⟨⟨.l0, []⟩⟩
def bkC (b : Bk) : List V := [b.v]
theorem bkC_len (b : Bk) : (bkC b).length = 1 := rfl
/-- blocks, as they lie -/
structure Bls (h : H) (v : V) (bs : List (List Ent)) (ks : List Bk) : Prop where
  ss : Ss 1 bkC h v ks
  eq : ks.map (·.l) = bs
  es : ∀ k ∈ ks, Es h k.v k.l
section
variable {P : Program} {h h' g' : H} {N : Nx} {v : V} {bs : List (List Ent)} {ks : List Bk} {i : Nat}
theorem Bls.len (a : Bls h v bs ks) : ks.length = bs.length := by rw [← a.eq, List.length_map]
theorem Bls.ld (a : Bls h v bs ks) (hi : i < bs.length) : L1 P (lid v) (lg v) (loff v + i) (lfin v) h N = N.go P (ks.getD i default).v h := by
  have := a.ss.ld (P := P) (N := N) (i := i) (d := 0) bkC_len (by rw [a.len]; exact hi) (by omega)
  rwa [Nat.mul_one] at this
theorem Bls.grow (a : Bls h v bs ks) (s : Stay nowhere h h') : Bls h' v bs ks := ⟨a.ss.grow s, a.eq, fun k hk => (a.es k hk).grow s⟩
theorem Bls.at (a : Bls h v bs ks) (hi : i < bs.length) : Es h (ks.getD i default).v (bs.getD i []) := by
  have hk : i < ks.length := by rw [a.len]; exact hi
  have h1 := a.es (ks.getD i default) (by rw [List.getD_eq_getElem?_getD, List.getElem?_eq_getElem hk]; simp)
  have h2 : bs.getD i [] = (ks.getD i default).l := by rw [← a.eq]; simp [List.getD, List.getElem?_eq_getElem hk]
  rw [h2]; exact h1
end
end Go.Proofs.Ytiingkpdodbldaa

set_option linter.all false
namespace Go.Proofs.Ytiingkpdodbldaa
open Go Go.Ev
theorem key_le {L : List Ent} (hs : sortedE L = true) {i j : Nat} (hij : i ≤ j) (hj : j < L.length) : Op.bytesLess (L.getD j default).key (L.getD i default).key = false := by
  by_cases e : i = j
  · rw [e]; exact bl_irr _
  · have := sorted_lt hs (show i < j by omega) hj
    unfold lessE at this
    split at this
    · rename_i h; rw [h]; exact bl_irr _
    · exact bl_asym this
theorem first_le {b : List Ent} (h : okB b) {e : Ent} (he : e ∈ b) : Op.bytesLess e.key (firstK b) = false := by
  obtain ⟨i, hi, rfl⟩ := List.getElem_of_mem he
  have := key_le h.2.2 (Nat.zero_le i) hi
  rwa [show b.getD i default = b[i] by simp [List.getD, hi]] at this
theorem le_last {b : List Ent} (h : okB b) {e : Ent} (he : e ∈ b) : Op.bytesLess (lastK b) e.key = false := by
  obtain ⟨i, hi, rfl⟩ := List.getElem_of_mem he
  have := key_le h.2.2 (show i ≤ b.length - 1 by omega) (by omega)
  rwa [show b.getD i default = b[i] by simp [List.getD, hi]] at this
theorem first_last {b : List Ent} (h : okB b) : Op.bytesLess (lastK b) (firstK b) = false := key_le h.2.2 (Nat.zero_le _) (by have := okB_pos h; omega)
theorem getD_app' {A C : List Ent} {p : Nat} : (A ++ C).getD p default = if p < A.length then A.getD p default else C.getD (p - A.length) default := by
  split
  · rename_i h; simp [List.getD, List.getElem?_append, h]
  · rename_i h; simp [List.getD, List.getElem?_append, h]
theorem two_order {A C : List Ent} (h : sortedE (A ++ C) = true) (hA : A ≠ []) (hC : C ≠ []) : Op.bytesLess (firstK C) (lastK A) = false := by
  have h1 : 1 ≤ A.length := by cases A with | nil => exact absurd rfl hA | cons => simp
  have h2 : 1 ≤ C.length := by cases C with | nil => exact absurd rfl hC | cons => simp
  have := key_le h (i := A.length - 1) (j := A.length) (by omega) (by rw [List.length_append]; omega)
  rw [getD_app', getD_app', if_neg (by omega), if_pos (by omega), Nat.sub_self] at this
  exact this
theorem blocks_order : ∀ {bs : List (List Ent)}, okB bs.flatten → (∀ b ∈ bs, b ≠ []) → ∀ {i : Nat}, i + 1 < bs.length → Op.bytesLess (firstK (bs.getD (i + 1) [])) (lastK (bs.getD i [])) = false
  | [], _, _, i, hi => by simp at hi
  | [b], _, _, i, hi => by simp at hi
  | b :: c :: bs, h, hn, 0, hi => by
    have hb : b ≠ [] := hn b (by simp)
    have hc : c ≠ [] := hn c (by simp)
    rw [List.flatten_cons, List.flatten_cons, ← List.append_assoc] at h
    have h1 := okB_part h (by simp [hb])
    exact two_order h1.2.2 hb hc
  | b :: c :: bs, h, hn, i + 1, hi => by
    have hc : c ≠ [] := hn c (by simp)
    rw [List.flatten_cons] at h
    have h1 := okB_rest h (by rw [List.flatten_cons]; simp [hc])
    exact blocks_order h1 (fun b hb => hn b (List.mem_cons_of_mem _ hb)) (i := i) (by simpa using hi)
theorem blks_order {L : List Ent} (h : okB L) {i : Nat} (hi : i + 1 < (blksE L).length) : Op.bytesLess (firstK ((blksE L).getD (i + 1) [])) (lastK ((blksE L).getD i [])) = false := blocks_order (by rw [blksE_flat]; exact h) blksE_ne hi
theorem newest_none {L : List Ent} {key : List UInt8} {seq : Int} (h : newestO L key seq = none) : newestE L key seq = (entZ, false) := by unfold newestE; rw [h]
theorem newest_some {L : List Ent} {key : List UInt8} {seq : Int} {e : Ent} (h : newestO L key seq = some e) : newestE L key seq = (e, true) := by unfold newestE; rw [h]
theorem newest_false {L : List Ent} {key : List UInt8} {seq : Int} (h : (newestE L key seq).2 = false) : newestO L key seq = none := by
  unfold newestE at h
  cases hn : newestO L key seq with
  | none => rfl
  | some e => rw [hn] at h; cases h
theorem newest_true {L : List Ent} {key : List UInt8} {seq : Int} (h : (newestE L key seq).2 = true) : newestO L key seq = some (newestE L key seq).1 := by
  unfold newestE at h ⊢
  cases hn : newestO L key seq with
  | none => rw [hn] at h; cases h
  | some e => rfl
theorem newest_no {L : List Ent} {key : List UInt8} {seq : Int} (h : ∀ e ∈ L, e.key ≠ key) : newestO L key seq = none := by
  unfold newestO
  split
  · rw [List.find?_eq_none]
    intro e he
    unfold hitE
    rw [decide_eq_false (h e he), Bool.false_and]; decide
  · rfl
theorem newest_out {b : List Ent} (h : okB b) {key : List UInt8} {seq : Int} (ho : Op.bytesLess key (firstK b) = true ∨ Op.bytesLess (lastK b) key = true) : newestO b key seq = none := by
  refine newest_no fun e he hk => ?_
  rcases ho with ho | ho
  · have := first_le h he; rw [hk, ho] at this; cases this
  · have := le_last h he; rw [hk, ho] at this; cases this
theorem newest_may {L : List Ent} {key : List UInt8} {seq : Int} (h : mayB (sieveB (keysE L)) key = false) : newestO L key seq = none := by
  refine newest_no fun e he hk => ?_
  have := mayB_put (keysE_mem.2 ⟨e, he, hk⟩)
  rw [h] at this; cases this
theorem newest_flat {bs : List (List Ent)} (h : okB bs.flatten) (hn : ∀ b ∈ bs, b ≠ []) {key : List UInt8} {seq : Int} : newestO bs.flatten key seq = bs.findSome? fun b => newestO b key seq := by
  have hb := flat_ok h hn
  unfold newestO
  rw [if_pos h.2.2, List.find?_flatten]
  clear h
  induction bs with
  | nil => rfl
  | cons b bs ih =>
    rw [List.findSome?_cons, List.findSome?_cons, if_pos (hb b (by simp)).2.2, ih (fun b hb => hn b (List.mem_cons_of_mem _ hb)) (fun b h => hb b (List.mem_cons_of_mem _ h))]
theorem find_first {α β : Type} {f : α → Option β} : ∀ {bs : List α} {d : α} {j : Nat} {e : β}, j < bs.length → (∀ i, i < j → f (bs.getD i d) = none) → f (bs.getD j d) = some e → bs.findSome? f = some e
  | [], d, j, e, hj, _, _ => by simp at hj
  | b :: bs, d, 0, e, _, _, h => by
    rw [List.findSome?_cons, show f b = some e from h]
  | b :: bs, d, j + 1, e, hj, h0, h => by
    rw [List.findSome?_cons, show f b = none from h0 0 (by omega)]
    exact find_first (j := j) (by simpa using hj) (fun i hi => h0 (i + 1) (by omega)) h
theorem newest_hit {L : List Ent} (h : okB L) {key : List UInt8} {seq : Int} {j : Nat} {e : Ent} (hj : j < (blksE L).length) (h0 : ∀ i, i < j → newestO ((blksE L).getD i []) key seq = none) (hx : newestO ((blksE L).getD j []) key seq = some e) : newestO L key seq = some e := by
  have := newest_flat (bs := blksE L) (by rw [blksE_flat]; exact h) blksE_ne (key := key) (seq := seq)
  rw [blksE_flat] at this
  rw [this]
  exact find_first hj h0 hx
theorem newest_miss {L : List Ent} (h : okB L) {key : List UInt8} {seq : Int} (h0 : ∀ i, i < (blksE L).length → newestO ((blksE L).getD i []) key seq = none) : newestO L key seq = none := by
  have := newest_flat (bs := blksE L) (by rw [blksE_flat]; exact h) blksE_ne (key := key) (seq := seq)
  rw [blksE_flat] at this
  rw [this, List.findSome?_eq_none_iff]
  intro b hb
  obtain ⟨i, hi, rfl⟩ := List.getElem_of_mem hb
  have := h0 i hi
  rwa [show (blksE L).getD i [] = (blksE L)[i] by simp [List.getD, hi]] at this
theorem range_part (bs : List (List Ent)) (fr to : List UInt8) : rangeE bs.flatten fr to = (bs.map fun b => rangeE b fr to).flatten := by
  unfold rangeE
  induction bs with
  | nil => rfl
  | cons b bs ih => rw [List.flatten_cons, List.filter_append, ih]; rfl
def rangeU (L : List Ent) (fr to : List UInt8) (j : Nat) : List Ent := (((blksE L).take j).map fun b => rangeE b fr to).flatten
theorem rangeU_succ {L : List Ent} {fr to : List UInt8} {j : Nat} (hj : j < (blksE L).length) : rangeU L fr to (j + 1) = rangeU L fr to j ++ rangeE ((blksE L).getD j []) fr to := by
  unfold rangeU
  rw [List.take_succ, List.map_append, List.flatten_append]; congr 1; simp [List.getD, hj]
theorem rangeU_all (L : List Ent) (fr to : List UInt8) : rangeU L fr to (blksE L).length = rangeE L fr to := by
  unfold rangeU
  rw [List.take_length, ← range_part, blksE_flat]
theorem rangeU_le {L : List Ent} {fr to : List UInt8} (j : Nat) : (rangeU L fr to j).length ≤ L.length := by
  unfold rangeU
  rw [← range_part]
  have h1 := rangeE_le ((blksE L).take j).flatten fr to
  have h2 : ((blksE L).take j).flatten.length ≤ (blksE L).flatten.length := by
    conv => rhs; rw [← List.take_append_drop j (blksE L), List.flatten_append, List.length_append]
    omega
  rw [blksE_flat] at h2; omega
theorem range_out {b : List Ent} (h : okB b) {fr to : List UInt8} (ho : Op.bytesLess (lastK b) fr = true ∨ (to ≠ [] ∧ Op.bytesLess (firstK b) to = false)) : rangeE b fr to = [] := by
  unfold rangeE
  rw [List.filter_eq_nil_iff]
  intro e he
  unfold inR
  rcases ho with ho | ⟨ht, ho⟩
  · have h1 := le_last h he
    have : Op.bytesLess e.key fr = true := by
      by_cases hk : e.key = lastK b
      · rw [hk]; exact ho
      · rcases bl_total hk with h2 | h2
        · exact bl_trans h2 ho
        · rw [h1] at h2; cases h2
    rw [this]; simp
  · have h1 := first_le h he
    have : Op.bytesLess e.key to = false := by
      cases hx : Op.bytesLess e.key to with
      | false => rfl
      | true =>
        by_cases hk : e.key = firstK b
        · rw [hk, ho] at hx; cases hx
        · rcases bl_total hk with h2 | h2
          · rw [h1] at h2; cases h2
          · have := bl_trans h2 hx; rw [ho] at this; cases this
    rw [this, decide_eq_false ht]; simp
theorem range_all (L : List Ent) : rangeE L [] [] = L := by
  unfold rangeE
  rw [List.filter_eq_self]
  intro e _
  unfold inR
  cases e.key <;> rfl
def offT (L : List Ent) (j : Nat) : Nat := (bodyT ((blksE L).take j)).length
theorem bodyT_cut {bs : List (List Ent)} (j : Nat) : ∃ more, bodyT bs = bodyT (bs.take j) ++ more := by
  refine ⟨bodyT (bs.drop j), ?_⟩
  unfold bodyT
  conv => lhs; rw [← List.take_append_drop j bs, List.map_append, List.flatten_append]
theorem offT_le {L : List Ent} (j : Nat) : offT L j ≤ (bodyT (blksE L)).length := by
  obtain ⟨more, e⟩ := bodyT_cut (bs := blksE L) j
  unfold offT; rw [e, List.length_append]; omega
theorem oneIx_parts (b : List Ent) (more : List UInt8) : oneIx b ++ more = numB (blkB b).length ++ (textB (firstK b) ++ (textB (lastK b) ++ more)) := by unfold oneIx; simp only [List.append_assoc]
theorem blkB_pos {b : List Ent} (h : okB b) : 1 ≤ (blkB b).length := by
  rw [blkB_ok h, sealB_len]; omega
end Go.Proofs.Ytiingkpdodbldaa

set_option linter.all false
namespace Go.Proofs.Ytiingkpdodbldaa
open Go Go.Ev
/-- a block's bytes, its first and its last key -/
structure Pc where
  b : List UInt8
  f : List UInt8
  l : List UInt8
def pcZ : Pc := ⟨[], [], []⟩
instance : Inhabited Pc := ⟨pcZ⟩
def pcC (p : Pc) : List V := [sv p.b, sv p.f, sv p.l]
theorem pcC_len (p : Pc) : (pcC p).length = 3 := rfl
def pcOf (b : List Ent) : Pc := ⟨blkB b, firstK b, lastK b⟩
def Ps (h : H) (v : V) (L : List Pc) : Prop := Ss 3 pcC h v L
section
variable {P : Program} {h h' g' : H} {N : Nx} {v : V} {L : List Pc} {i d : Nat}
theorem Ps.ln (a : Ps h v L) : H1 P gLen v g' N = N.go P (.i .i64 (L.length : Int)) g' := Ss.ln a
theorem Ps.ix (a : Ps h v L) (hi : i < L.length) : IX P 3 v i g' N = N.go P (.p (lid v) (lg v) (loff v + i * 3) (lfin v)) g' := Ss.ix a hi
theorem Ps.l0 (a : Ps h v L) (hi : i < L.length) : L1 P (lid v) (lg v) (loff v + i * 3) (lfin v) h N = N.go P (sv (L.getD i default).b) h := Ss.ld (d := 0) a pcC_len hi (by omega)
theorem Ps.l1 (a : Ps h v L) (hi : i < L.length) : L1 P (lid v) (lg v) (loff v + i * 3 + 1) (lfin v) h N = N.go P (sv (L.getD i default).f) h := Ss.ld (d := 1) a pcC_len hi (by omega)
theorem Ps.l2 (a : Ps h v L) (hi : i < L.length) : L1 P (lid v) (lg v) (loff v + i * 3 + 2) (lfin v) h N = N.go P (sv (L.getD i default).l) h := Ss.ld (d := 2) a pcC_len hi (by omega)
theorem Ps.la (a : Ps h v L) (hi : i < L.length) : LN P (lid v) (lg v) (loff v + i * 3) (lfin v) 3 h N = N.go P (.a [sv (L.getD i default).b, sv (L.getD i default).f, sv (L.getD i default).l]) h := Ss.ldA a pcC_len (by omega) hi
theorem Ps.grow (a : Ps h v L) (s : Stay nowhere h h') : Ps h' v L := Ss.grow a s
end
def idxT (bs : List (List Ent)) : List UInt8 := (bs.map oneIx).flatten
/-- blocks in order, all keys of them above that one -/
def Chn : List UInt8 → List (List Ent) → Prop
  | _, [] => True
  | k, b :: bs => okB b ∧ b.length ≤ 100 ∧ Op.bytesLess (firstK b) k = false ∧ Chn (lastK b) bs
theorem chn_of : ∀ {bs : List (List Ent)} {k : List UInt8}, (∀ b ∈ bs, okB b ∧ b.length ≤ 100) → (∀ i, i + 1 < bs.length → Op.bytesLess (firstK (bs.getD (i + 1) [])) (lastK (bs.getD i [])) = false) → (0 < bs.length → Op.bytesLess (firstK (bs.getD 0 [])) k = false) → Chn k bs
  | [], _, _, _, _ => trivial
  | b :: bs, k, h1, h2, h3 => ⟨(h1 b (by simp)).1, (h1 b (by simp)).2, h3 (by simp), chn_of (fun c hc => h1 c (List.mem_cons_of_mem _ hc)) (fun i hi => h2 (i + 1) (by simpa using hi)) (fun h0 => h2 0 (by simpa using h0))⟩
theorem bl_nil_r (l : List UInt8) : Op.bytesLess l [] = false := by cases l <;> rfl
theorem chn_blks {L : List Ent} (h : okB L) (hl : L.length ≤ 100) : Chn [] (blksE L) := by
  refine chn_of (fun b hb => ⟨blks_ok h b hb, ?_⟩) (fun i hi => blks_order h hi) fun _ => bl_nil_r _
  have := flat_le hb
  rw [blksE_flat] at this; omega
theorem oneIx_ne (b : List Ent) : oneIx b ≠ [] := by
  unfold oneIx textB numB
  intro h
  have := congrArg List.length h
  simp at this
theorem idxT_cons (b : List Ent) (bs : List (List Ent)) : idxT (b :: bs) = oneIx b ++ idxT bs := rfl
theorem blkB_len {b : List Ent} (hl : b.length ≤ 100) : (blkB b).length ≤ 8013 := by
  have := blkE_len (L := b) (by omega)
  unfold blkB; omega
theorem one_num {b : List Ent} (hl : b.length ≤ 100) (more : List UInt8) : takeN (oneIx b ++ more) = (((blkB b).length : Int), ((numB (blkB b).length).length : Int), 0) := by
  have := blkB_len hl
  rw [oneIx_parts]; exact takeN_numB (by omega) _
theorem one_first {b : List Ent} (h : okB b) (more : List UInt8) : takeT ((oneIx b ++ more).drop (numB (blkB b).length).length) = (firstK b, ((textB (firstK b)).length : Int), 0) := by
  have hk := (okB_key h (i := 0) (okB_pos h)).2
  rw [oneIx_parts, List.drop_left]; exact takeT_textB (by unfold firstK; omega)
theorem one_last {b : List Ent} (h : okB b) (more : List UInt8) : takeT ((oneIx b ++ more).drop ((numB (blkB b).length).length + (textB (firstK b)).length)) = (lastK b, ((textB (lastK b)).length : Int), 0) := by
  have hp := okB_pos h
  have hk := (okB_key h (i := b.length - 1) (by omega)).2
  rw [oneIx_parts, ← List.drop_drop, List.drop_left, List.drop_left]; exact takeT_textB (by unfold lastK; omega)
theorem one_ilen (b : List Ent) : (oneIx b).length = (numB (blkB b).length).length + (textB (firstK b)).length + (textB (lastK b)).length := by unfold oneIx; simp only [List.length_append]
/-- the four bytes at the end, and what they part -/
def splT (s : List UInt8) : List UInt8 × List UInt8 × Int :=
  if s.length < 4 then ([], [], 12) else
  if s.length - 4 < pk (s.drop (s.length - 4)) then ([], [], 12) else (s.take (pk (s.drop (s.length - 4))), (s.take (s.length - 4)).drop (pk (s.drop (s.length - 4))), 0)
theorem pk_four {n : Nat} (hn : n < 4294967296) : pk (fourB n) = n := by
  unfold fourB; simp [pk]; omega
theorem splT_made {a b : List UInt8} {n : Nat} (hn : n = a.length) (h4 : n < 4294967296) : splT (a ++ b ++ fourB n) = (a, b, 0) := by
  have hf := fourB_len n
  have hl : (a ++ b ++ fourB n).length = a.length + b.length + 4 := by simp only [List.length_append, hf]
  have hd : (a ++ b ++ fourB n).drop (a.length + b.length + 4 - 4) = fourB n := by
    rw [show a.length + b.length + 4 - 4 = (a ++ b).length by simp, List.drop_left]
  have ht : (a ++ b ++ fourB n).take (a.length + b.length + 4 - 4) = a ++ b := by
    rw [show a.length + b.length + 4 - 4 = (a ++ b).length by simp, List.take_left]
  unfold splT
  rw [hl, hd, ht, pk_four h4, if_neg (by omega), if_neg (by omega), hn, List.drop_left, List.append_assoc, List.take_left]
end Go.Proofs.Ytiingkpdodbldaa

set_option maxRecDepth 1000000
set_option linter.all false
namespace Go.Proofs.Ytiingkpdodbldaa
open Go Go.Ev
noncomputable abbrev s73_0 : CC := (CC.cond (tm 23) CC.skip (CC.exit 0))
noncomputable abbrev s73_1 : CC := (CC.seq (CC.draws [(uB 12 (doMove (tm 6))), (uB 13 (doMove (tm 5))), (uB 14 (bin2 fLss (tm 12) (tm 13))), (uB 15 (doMove (tm 14))), (uG 15 true 16 (doMove (tm 0))), (uG 15 true 17 (doMove (tm 6))), (uG 15 true 18 (doSIndex (tm 16) (tm 17))), (uG 15 true 19 (doMove (tm 1))), (uG 15 true 20 (doMove (tm 6))), (uG 15 true 21 (doSIndex (tm 19) (tm 20))), (uG 15 true 22 (bin2 fEql (tm 18) (tm 21))), (uB 23 (doPick (tm 15) (tm 22) (O.c (V.b Bool.false))))]) s73_0)
noncomputable abbrev s73_2 : CC := (CC.region [(wB 24 (doMove (tm 6))), (wB 25 (bin2 fAdd (tm 24) (oN 1))), (wB 6 (doMove (tm 25)))])
noncomputable abbrev s73_3 : CC := (CC.block 1 s73_2)
noncomputable abbrev l73_0 : CC := (CC.seq s73_1 s73_3)
noncomputable abbrev s73_4 : CC := (CC.loop l73_0)
noncomputable abbrev s73_5 : CC := (CC.block 0 s73_4)
noncomputable abbrev s73_6 : CC := (CC.seq (CC.region [(wB 26 (doMove (tm 6))), (wB 4 (doMove (tm 26)))]) CC.ret)
noncomputable abbrev s73_7 : CC := (CC.seq s73_5 s73_6)
noncomputable abbrev s73_8 : CC := (CC.seq (CC.region [(wB 6 (doMove (oN 0)))]) s73_7)
noncomputable abbrev s73_9 : CC := (CC.seq (CC.region [(wB 7 (doMove (tm 0))), (wB 8 (doLenS (tm 7))), (wB 9 (doMove (tm 1))), (wB 10 (doLenS (tm 9))), (wB 11 (doMin (tm 8) (tm 10))), (wB 5 (doMove (tm 11)))]) s73_8)
noncomputable abbrev b73 : CC := (CC.seq (CC.region [(wB 4 (doMove (oN 0)))]) s73_9)
theorem c73 : compFn Try.prog 73 = ⟨27, b73, [(Rs.tmp (slOf 4))]⟩ := by kernel_rfl
noncomputable abbrev s50_0 : CC := (CC.cond (tm 11) CC.skip (CC.exit 0))
noncomputable abbrev s50_1 : CC := (CC.region [(wB 35 (doFieldAddr 0 (tm 6))), (wB 36 (doLoad (tm 35))), (wB 4 (doMove (tm 36)))])
noncomputable abbrev s50_2 : CC := (CC.seq (CC.draws [(uB 27 (doLoadA 4 (tm 6))), (uB 28 (doCall 74 [(tm 27)])), (uB 29 (doFieldAddr 0 (tm 6))), (uB 30 (doLoad (tm 29))), (wB 31 (doCall 55 [(tm 30)])), (uB 32 (doLenS (tm 31))), (uB 33 (doSSlice (tm 28) (some (tm 32)) none)), (wB 34 (doCall 24 [(tm 3), (tm 33)]))]) s50_1)
noncomputable abbrev s50_3 : CC := (CC.seq (CC.region [(wB 21 (doFieldAddr 0 (tm 6))), (wB 22 (doLoad (tm 21))), (wB 23 (doMove (tm 7))), (wB 24 (doSSlice (tm 22) (some (tm 23)) none)), (wB 25 (doCall 55 [(tm 24)])), (wB 26 (doCall 24 [(tm 3), (tm 25)]))]) s50_2)
noncomputable abbrev s50_4 : CC := (CC.seq (CC.region [(wB 18 (doMove (tm 7))), (wB 19 (doCall 53 [(tm 18)])), (wB 20 (doCall 24 [(tm 3), (tm 19)]))]) s50_3)
noncomputable abbrev s50_5 : CC := (CC.seq (CC.region [(wB 14 (doMove (tm 4))), (wB 15 (doFieldAddr 0 (tm 6))), (wB 16 (doLoad (tm 15))), (wB 17 (doCall 73 [(tm 14), (tm 16)])), (wB 7 (doMove (tm 17)))]) s50_4)
noncomputable abbrev s50_6 : CC := (CC.seq (CC.region [(wB 12 (doIndexAddr 4 (tm 8) (tm 10))), (wB 13 (doLoadA 4 (tm 12))), (wB 6 (doAlloc 34 [(V.s 0 0), (V.i IntKind.i64 (Int.ofNat 0)), (V.b Bool.false), (V.s 0 0)])), (CO.mk G.none D.none Bool.true (CR.mk (doStore 4 (tm 6) (tm 13))))]) s50_5)
noncomputable abbrev s50_7 : CC := (CC.block 1 s50_6)
noncomputable abbrev s50_8 : CC := (CC.region [(wB 37 (bin2 fAdd (tm 10) (oN 1))), (wB 10 (doMove (tm 37)))])
noncomputable abbrev s50_9 : CC := (CC.seq s50_7 s50_8)
noncomputable abbrev s50_10 : CC := (CC.seq s50_0 s50_9)
noncomputable abbrev l50_0 : CC := (CC.seq (CC.region [(wB 11 (bin2 fLss (tm 10) (tm 9)))]) s50_10)
noncomputable abbrev s50_11 : CC := (CC.loop l50_0)
noncomputable abbrev s50_12 : CC := (CC.block 0 s50_11)
noncomputable abbrev s50_13 : CC := (CC.seq (CC.region [(wB 8 (doMove (tm 0))), (wB 9 (doLen (tm 8))), (wB 10 (doMove (oN 0)))]) s50_12)
noncomputable abbrev s50_14 : CC := (CC.seq (CC.region [(wB 38 (doCall 31 [(tm 3)])), (wB 2 (doMove (tm 38)))]) CC.ret)
noncomputable abbrev s50_15 : CC := (CC.seq s50_13 s50_14)
noncomputable abbrev s50_16 : CC := (CC.seq (CC.region [(wB 4 (doMove (O.c (V.s 0 0))))]) s50_15)
noncomputable abbrev s50_17 : CC := (CC.seq (CC.region [(wB 3 (doAlloc 58 [V.p0, V.l0]))]) s50_16)
noncomputable abbrev b50 : CC := (CC.seq (CC.region [(wB 2 (doMove (O.c (V.s 0 0))))]) s50_17)
theorem c50 : compFn Try.prog 50 = ⟨39, b50, [(Rs.tmp (slOf 2))]⟩ := by kernel_rfl
noncomputable abbrev s22_0 : CC := (CC.seq (CC.region [(wB 2 (doMove (O.c (V.s 0 0)))), (wB 3 (doMove (oN 10)))]) CC.ret)
noncomputable abbrev s22_1 : CC := (CC.cond (tm 8) s22_0 CC.skip)
noncomputable abbrev s22_2 : CC := (CC.seq (CC.region [(wB 6 (doMove (tm 0))), (wB 7 (doLen (tm 6))), (wB 8 (bin2 fEql (tm 7) (oN 0)))]) s22_1)
noncomputable abbrev s22_3 : CC := (CC.cond (tm 12) CC.skip (CC.exit 0))
noncomputable abbrev s22_4 : CC := (CC.seq (CC.region [(wB 2 (doMove (O.c (V.s 0 0)))), (wB 3 (doMove (oN 10)))]) CC.ret)
noncomputable abbrev s22_5 : CC := (CC.cond (tm 17) s22_4 CC.skip)
noncomputable abbrev s22_6 : CC := (CC.seq (CC.region [(wB 15 (doLoadA 4 (tm 5))), (wB 16 (doCall 48 [(tm 15)])), (wB 17 (doNot (tm 16)))]) s22_5)
noncomputable abbrev s22_7 : CC := (CC.seq (CC.region [(wB 13 (doIndexAddr 4 (tm 9) (tm 11))), (wB 14 (doLoadA 4 (tm 13))), (wB 5 (doAlloc 34 [(V.s 0 0), (V.i IntKind.i64 (Int.ofNat 0)), (V.b Bool.false), (V.s 0 0)])), (CO.mk G.none D.none Bool.true (CR.mk (doStore 4 (tm 5) (tm 14))))]) s22_6)
noncomputable abbrev s22_8 : CC := (CC.block 1 s22_7)
noncomputable abbrev s22_9 : CC := (CC.region [(wB 18 (bin2 fAdd (tm 11) (oN 1))), (wB 11 (doMove (tm 18)))])
noncomputable abbrev s22_10 : CC := (CC.seq s22_8 s22_9)
noncomputable abbrev s22_11 : CC := (CC.seq s22_3 s22_10)
noncomputable abbrev l22_0 : CC := (CC.seq (CC.region [(wB 12 (bin2 fLss (tm 11) (tm 10)))]) s22_11)
noncomputable abbrev s22_12 : CC := (CC.loop l22_0)
noncomputable abbrev s22_13 : CC := (CC.block 0 s22_12)
noncomputable abbrev s22_14 : CC := (CC.seq (CC.region [(wB 9 (doMove (tm 0))), (wB 10 (doLen (tm 9))), (wB 11 (doMove (oN 0)))]) s22_13)
noncomputable abbrev s22_15 : CC := (CC.seq (CC.region [(wB 2 (doMove (O.c (V.s 0 0)))), (wB 3 (doMove (oN 16)))]) CC.ret)
noncomputable abbrev s22_16 : CC := (CC.cond (tm 21) s22_15 CC.skip)
noncomputable abbrev s22_17 : CC := (CC.seq (CC.region [(wB 19 (doMove (tm 0))), (wB 20 (doCall 49 [(tm 19)])), (wB 21 (doNot (tm 20)))]) s22_16)
noncomputable abbrev s22_18 : CC := (CC.seq (CC.region [(wB 22 (doMove (tm 0))), (wB 23 (doCall 50 [(tm 22)])), (wB 24 (doCall 26 [(tm 23)])), (wB 2 (doMove (tm 24))), (wB 3 (doMove (oN 0)))]) CC.ret)
noncomputable abbrev s22_19 : CC := (CC.seq s22_17 s22_18)
noncomputable abbrev s22_20 : CC := (CC.seq s22_14 s22_19)
noncomputable abbrev s22_21 : CC := (CC.seq s22_2 s22_20)
noncomputable abbrev b22 : CC := (CC.seq (CC.region [(wB 2 (doMove (O.c (V.s 0 0)))), (wB 3 (doMove (oN 0)))]) s22_21)
theorem c22 : compFn Try.prog 22 = ⟨25, b22, [(Rs.tmp (slOf 2)), (Rs.tmp (slOf 3))]⟩ := by kernel_rfl
noncomputable abbrev s81_0 : CC := (CC.seq (CC.region [(wB 23 (doBuild [(V.s 0 0), (V.i IntKind.i64 (Int.ofNat 0)), (V.b Bool.false), (V.s 0 0)] [])), (wB 24 (doMove (tm 9))), (CO.mk G.none D.none Bool.true (CR.mk (doStore 4 (tm 4) (tm 23)))), (wB 5 (doMove (oN 0))), (wB 6 (doMove (tm 24)))]) CC.ret)
noncomputable abbrev s81_1 : CC := (CC.cond (tm 22) s81_0 CC.skip)
noncomputable abbrev s81_2 : CC := (CC.seq (CC.region [(wB 21 (doMove (tm 9))), (wB 22 (bin2 fNeq (tm 21) (oN 0)))]) s81_1)
noncomputable abbrev s81_3 : CC := (CC.seq (CC.region [(wB 29 (doBuild [(V.s 0 0), (V.i IntKind.i64 (Int.ofNat 0)), (V.b Bool.false), (V.s 0 0)] [])), (CO.mk G.none D.none Bool.true (CR.mk (doStore 4 (tm 4) (tm 29)))), (wB 5 (doMove (oN 0))), (wB 6 (doMove (oN 10)))]) CC.ret)
noncomputable abbrev s81_4 : CC := (CC.cond (tm 28) s81_3 CC.skip)
noncomputable abbrev s81_5 : CC := (CC.seq (CC.region [(wB 25 (doMove (tm 7))), (wB 26 (doMove (tm 1))), (wB 27 (doLenS (tm 26))), (wB 28 (bin2 fGtr (tm 25) (tm 27)))]) s81_4)
noncomputable abbrev s81_6 : CC := (CC.seq (CC.region [(wB 40 (doBuild [(V.s 0 0), (V.i IntKind.i64 (Int.ofNat 0)), (V.b Bool.false), (V.s 0 0)] [])), (wB 41 (doMove (tm 9))), (CO.mk G.none D.none Bool.true (CR.mk (doStore 4 (tm 4) (tm 40)))), (wB 5 (doMove (oN 0))), (wB 6 (doMove (tm 41)))]) CC.ret)
noncomputable abbrev s81_7 : CC := (CC.cond (tm 39) s81_6 CC.skip)
noncomputable abbrev s81_8 : CC := (CC.seq (CC.region [(wB 38 (doMove (tm 9))), (wB 39 (bin2 fNeq (tm 38) (oN 0)))]) s81_7)
noncomputable abbrev s81_9 : CC := (CC.seq (CC.region [(wB 69 (doBuild [(V.s 0 0), (V.i IntKind.i64 (Int.ofNat 0)), (V.b Bool.false), (V.s 0 0)] [])), (wB 70 (doMove (tm 9))), (CO.mk G.none D.none Bool.true (CR.mk (doStore 4 (tm 4) (tm 69)))), (wB 5 (doMove (oN 0))), (wB 6 (doMove (tm 70)))]) CC.ret)
noncomputable abbrev s81_10 : CC := (CC.cond (tm 68) s81_9 CC.skip)
noncomputable abbrev s81_11 : CC := (CC.seq (CC.region [(wB 67 (doMove (tm 9))), (wB 68 (bin2 fNeq (tm 67) (oN 0)))]) s81_10)
noncomputable abbrev s81_12 : CC := (CC.seq (CC.region [(wB 71 (doLoadA 4 (tm 14))), (wB 72 (doMove (tm 8))), (wB 73 (doMove (tm 11))), (wB 74 (bin2 fAdd (tm 72) (tm 73))), (wB 75 (doMove (tm 12))), (wB 76 (doLenS (tm 75))), (wB 77 (bin2 fSub (tm 74) (tm 76))), (CO.mk G.none D.none Bool.true (CR.mk (doStore 4 (tm 4) (tm 71)))), (wB 5 (doMove (tm 77))), (wB 6 (doMove (oN 0)))]) CC.ret)
noncomputable abbrev s81_13 : CC := (CC.seq s81_11 s81_12)
noncomputable abbrev s81_14 : CC := (CC.seq (CC.region [(wB 60 (doMove (tm 12))), (wB 61 (doMove (tm 13))), (wB 62 (doConcat (tm 60) (tm 61))), (wB 63 (doCall 84 [(tm 62)])), (wB 59 (doMove (tm 63))), (wB 64 (doExtract 0 (tm 59))), (wB 65 (doExtract 1 (tm 59))), (wB 66 (doExtract 2 (tm 59))), (wB 14 (doAlloc 34 [(V.s 0 0), (V.i IntKind.i64 (Int.ofNat 0)), (V.b Bool.false), (V.s 0 0)])), (CO.mk G.none D.none Bool.true (CR.mk (doStore 4 (tm 14) (tm 64)))), (wB 11 (doMove (tm 65))), (wB 9 (doMove (tm 66)))]) s81_13)
noncomputable abbrev s81_15 : CC := (CC.seq (CC.region [(wB 51 (doMove (tm 0))), (wB 52 (doMove (tm 8))), (wB 53 (doMove (tm 8))), (wB 54 (bin2 fAdd (tm 53) (oN 43))), (wB 55 (doMove (tm 0))), (wB 56 (doLenS (tm 55))), (wB 57 (doMin (tm 54) (tm 56))), (wB 58 (doSSlice (tm 51) (some (tm 52)) (some (tm 57)))), (wB 13 (doMove (tm 58)))]) s81_14)
noncomputable abbrev s81_16 : CC := (CC.seq (CC.region [(wB 45 (doMove (tm 1))), (wB 46 (doMove (tm 7))), (wB 47 (doSSlice (tm 45) none (some (tm 46)))), (wB 48 (doMove (tm 10))), (wB 49 (doConcat (tm 47) (tm 48))), (wB 50 (doCall 55 [(tm 49)])), (wB 12 (doMove (tm 50)))]) s81_15)
noncomputable abbrev s81_17 : CC := (CC.seq (CC.region [(wB 42 (doMove (tm 8))), (wB 43 (doMove (tm 11))), (wB 44 (bin2 fAdd (tm 42) (tm 43))), (wB 8 (doMove (tm 44)))]) s81_16)
noncomputable abbrev s81_18 : CC := (CC.seq s81_8 s81_17)
noncomputable abbrev s81_19 : CC := (CC.seq (CC.region [(wB 31 (doMove (tm 0))), (wB 32 (doMove (tm 8))), (wB 33 (doSSlice (tm 31) (some (tm 32)) none)), (wB 34 (doCall 82 [(tm 33)])), (wB 30 (doMove (tm 34))), (wB 35 (doExtract 0 (tm 30))), (wB 36 (doExtract 1 (tm 30))), (wB 37 (doExtract 2 (tm 30))), (wB 10 (doMove (tm 35))), (wB 11 (doMove (tm 36))), (wB 9 (doMove (tm 37)))]) s81_18)
noncomputable abbrev s81_20 : CC := (CC.seq s81_5 s81_19)
noncomputable abbrev s81_21 : CC := (CC.seq s81_2 s81_20)
noncomputable abbrev s81_22 : CC := (CC.seq (CC.region [(wB 16 (doMove (tm 0))), (wB 17 (doCall 64 [(tm 16)])), (wB 15 (doMove (tm 17))), (wB 18 (doExtract 0 (tm 15))), (wB 19 (doExtract 1 (tm 15))), (wB 20 (doExtract 2 (tm 15))), (wB 7 (doMove (tm 18))), (wB 8 (doMove (tm 19))), (wB 9 (doMove (tm 20)))]) s81_21)
noncomputable abbrev b81 : CC := (CC.seq (CC.region [(wB 4 (doAlloc 34 [(V.s 0 0), (V.i IntKind.i64 (Int.ofNat 0)), (V.b Bool.false), (V.s 0 0)])), (wB 5 (doMove (oN 0))), (wB 6 (doMove (oN 0)))]) s81_22)
theorem c81 : compFn Try.prog 81 = ⟨78, b81, [(Rs.cellA (slOf 4) 4), (Rs.tmp (slOf 5)), (Rs.tmp (slOf 6))]⟩ := by kernel_rfl
noncomputable abbrev s70_0 : CC := (CC.cond (tm 12) CC.skip (CC.exit 0))
noncomputable abbrev s70_1 : CC := (CC.seq (CC.region [(wB 9 (doMove (tm 5))), (wB 10 (doMove (tm 0))), (wB 11 (doLenS (tm 10))), (wB 12 (bin2 fLss (tm 9) (tm 11)))]) s70_0)
noncomputable abbrev s70_2 : CC := (CC.region [(wB 29 (doFieldAddr 0 (tm 6))), (wB 30 (doLoad (tm 29))), (wB 31 (doMove (tm 5))), (wB 32 (doMove (tm 7))), (wB 33 (bin2 fAdd (tm 31) (tm 32))), (wB 4 (doMove (tm 30))), (wB 5 (doMove (tm 33)))])
noncomputable abbrev s70_3 : CC := (CC.seq (CC.region [(wB 25 (doMove (tm 3))), (wB 26 (doLoadA 4 (tm 6))), (wB 27 (doBuildSlice 34 1 [(V.s 0 0), (V.i IntKind.i64 (Int.ofNat 0)), (V.b Bool.false), (V.s 0 0)] [(Pt.mk 0 4 (tm 26))])), (wB 28 (doAppend 34 4 (tm 25) (tm 27))), (wB 3 (doMove (tm 28)))]) s70_2)
noncomputable abbrev s70_4 : CC := (CC.cond (tm 23) s70_3 (CC.exit 0))
noncomputable abbrev s70_5 : CC := (CC.seq (CC.region [(wB 24 (bin2 fEql (tm 22) (oN 0))), (wB 23 (doMove (tm 24)))]) s70_4)
noncomputable abbrev s70_6 : CC := (CC.block 2 s70_5)
noncomputable abbrev s70_7 : CC := (CC.seq (CC.region [(wB 22 (doMove (tm 8)))]) s70_6)
noncomputable abbrev s70_8 : CC := (CC.seq (CC.region [(wB 14 (doMove (tm 0))), (wB 15 (doMove (tm 5))), (wB 16 (doSSlice (tm 14) (some (tm 15)) none)), (wB 17 (doMove (tm 4))), (wB 18 (doCall 81 [(tm 16), (tm 17)])), (wB 13 (doMove (tm 18))), (wB 19 (doExtract 0 (tm 13))), (wB 20 (doExtract 1 (tm 13))), (wB 21 (doExtract 2 (tm 13))), (wB 6 (doAlloc 34 [(V.s 0 0), (V.i IntKind.i64 (Int.ofNat 0)), (V.b Bool.false), (V.s 0 0)])), (CO.mk G.none D.none Bool.true (CR.mk (doStore 4 (tm 6) (tm 19)))), (wB 7 (doMove (tm 20))), (wB 8 (doMove (tm 21)))]) s70_7)
noncomputable abbrev s70_9 : CC := (CC.block 1 s70_8)
noncomputable abbrev l70_0 : CC := (CC.seq s70_1 s70_9)
noncomputable abbrev s70_10 : CC := (CC.loop l70_0)
noncomputable abbrev s70_11 : CC := (CC.block 0 s70_10)
noncomputable abbrev s70_12 : CC := (CC.seq (CC.region [(wB 34 (doMove (tm 3))), (wB 2 (doMove (tm 34)))]) CC.ret)
noncomputable abbrev s70_13 : CC := (CC.seq s70_11 s70_12)
noncomputable abbrev s70_14 : CC := (CC.seq CC.skip s70_13)
noncomputable abbrev s70_15 : CC := (CC.seq (CC.region [(wB 4 (doMove (O.c (V.s 0 0)))), (wB 5 (doMove (oN 0)))]) s70_14)
noncomputable abbrev s70_16 : CC := (CC.seq (CC.region [(wB 3 (doMove (O.c V.l0)))]) s70_15)
noncomputable abbrev b70 : CC := (CC.seq (CC.region [(wB 2 (doMove (O.c V.l0)))]) s70_16)
theorem c70 : compFn Try.prog 70 = ⟨35, b70, [(Rs.tmp (slOf 2))]⟩ := by kernel_rfl
noncomputable abbrev s47_0 : CC := (CC.seq (CC.region [(wB 18 (doMove (tm 6))), (wB 2 (doMove (O.c V.l0))), (wB 3 (doMove (tm 18)))]) CC.ret)
noncomputable abbrev s47_1 : CC := (CC.cond (tm 17) s47_0 CC.skip)
noncomputable abbrev s47_2 : CC := (CC.seq (CC.region [(wB 16 (doMove (tm 6))), (wB 17 (bin2 fNeq (tm 16) (oN 0)))]) s47_1)
noncomputable abbrev s47_3 : CC := (CC.seq (CC.region [(wB 2 (doMove (O.c V.l0))), (wB 3 (doMove (oN 13)))]) CC.ret)
noncomputable abbrev s47_4 : CC := (CC.cond (tm 22) s47_3 CC.skip)
noncomputable abbrev s47_5 : CC := (CC.seq (CC.region [(wB 19 (doMove (tm 5))), (wB 20 (doMove (tm 0))), (wB 21 (doLenS (tm 20))), (wB 22 (bin2 fLss (tm 19) (tm 21)))]) s47_4)
noncomputable abbrev s47_6 : CC := (CC.seq (CC.region [(wB 2 (doMove (O.c V.l0))), (wB 3 (doMove (oN 10)))]) CC.ret)
noncomputable abbrev s47_7 : CC := (CC.cond (tm 32) s47_6 CC.skip)
noncomputable abbrev s47_8 : CC := (CC.seq (CC.region [(wB 30 (doMove (tm 8))), (wB 31 (doMove (tm 0))), (wB 32 (doSCmp (fun a b c d => !eqS a b c d) (tm 30) (tm 31)))]) s47_7)
noncomputable abbrev s47_9 : CC := (CC.seq (CC.region [(wB 26 (doMove (tm 7))), (wB 27 (doCall 22 [(tm 26)])), (wB 25 (doMove (tm 27))), (wB 28 (doExtract 0 (tm 25))), (wB 29 (doExtract 1 (tm 25))), (wB 8 (doMove (tm 28))), (wB 9 (doMove (tm 29)))]) s47_8)
noncomputable abbrev s47_10 : CC := (CC.seq (CC.region [(wB 33 (doMove (tm 7))), (wB 2 (doMove (tm 33))), (wB 3 (doMove (oN 0)))]) CC.ret)
noncomputable abbrev s47_11 : CC := (CC.seq s47_9 s47_10)
noncomputable abbrev s47_12 : CC := (CC.seq (CC.region [(wB 23 (doMove (tm 4))), (wB 24 (doCall 70 [(tm 23)])), (wB 7 (doMove (tm 24)))]) s47_11)
noncomputable abbrev s47_13 : CC := (CC.seq s47_5 s47_12)
noncomputable abbrev s47_14 : CC := (CC.seq s47_2 s47_13)
noncomputable abbrev s47_15 : CC := (CC.seq (CC.region [(wB 11 (doMove (tm 0))), (wB 12 (doCall 40 [(tm 11)])), (wB 10 (doMove (tm 12))), (wB 13 (doExtract 0 (tm 10))), (wB 14 (doExtract 1 (tm 10))), (wB 15 (doExtract 2 (tm 10))), (wB 4 (doMove (tm 13))), (wB 5 (doMove (tm 14))), (wB 6 (doMove (tm 15)))]) s47_14)
noncomputable abbrev b47 : CC := (CC.seq (CC.region [(wB 2 (doMove (O.c V.l0))), (wB 3 (doMove (oN 0)))]) s47_15)
theorem c47 : compFn Try.prog 47 = ⟨34, b47, [(Rs.tmp (slOf 2)), (Rs.tmp (slOf 3))]⟩ := by kernel_rfl
end Go.Proofs.Ytiingkpdodbldaa

set_option maxRecDepth 1000000
set_option linter.all false
namespace Go.Proofs.Ytiingkpdodbldaa
open Go Go.Ev
noncomputable abbrev s24_0 : CC := (CC.seq (CC.region [(wB 17 (doMove (tm 1))), (wB 18 (doLenS (tm 17))), (wB 4 (doMove (tm 18))), (wB 5 (doMove (O.c V.x0)))]) CC.ret)
noncomputable abbrev s24_1 : CC := (CC.seq (CC.region [(wB 8 (doMove (tm 0))), (wB 9 (doMove (tm 0))), (wB 10 (doNilCheck (tm 9))), (wB 11 (doFieldAddr 1 (tm 10))), (wB 12 (doLoad (tm 11))), (wB 13 (doMove (tm 1))), (wB 14 (doAppendS 5 (tm 12) (tm 13))), (wB 15 (doNilCheck (tm 8))), (wB 16 (doFieldAddr 1 (tm 15))), (CO.mk G.none D.none Bool.true (CR.mk (doStore 1 (tm 16) (tm 14))))]) s24_0)
noncomputable abbrev s24_2 : CC := (CC.seq (CC.region [(wB 6 (doMove (tm 0))), (wB 7 (doCall 52 [(tm 6)]))]) s24_1)
noncomputable abbrev b24 : CC := (CC.seq (CC.region [(wB 4 (doMove (oN 0))), (wB 5 (doMove (O.c V.x0)))]) s24_2)
theorem c24 : compFn Try.prog 24 = ⟨19, b24, [(Rs.tmp (slOf 4)), (Rs.tmp (slOf 5))]⟩ := by kernel_rfl
noncomputable abbrev s31_0 : CC := (CC.seq (CC.draws [(uB 3 (doMove (tm 0))), (uB 4 (doNilCheck (tm 3))), (uB 5 (doFieldAddr 1 (tm 4))), (uB 6 (doLoad (tm 5))), (uB 7 (doSData (tm 6))), (uB 8 (doMove (tm 0))), (uB 9 (doNilCheck (tm 8))), (uB 10 (doFieldAddr 1 (tm 9))), (uB 11 (doLoad (tm 10))), (uB 12 (doLen (tm 11))), (wB 13 (doUStr 5 (tm 7) (tm 12))), (uB 2 (doMove (tm 13)))]) CC.ret)
noncomputable abbrev b31 : CC := (CC.seq (CC.region [(wB 2 (doMove (O.c (V.s 0 0))))]) s31_0)
theorem c31 : compFn Try.prog 31 = ⟨14, b31, [(Rs.tmp (slOf 2))]⟩ := by kernel_rfl
noncomputable abbrev s52_0 : CC := (CC.region [(wB 7 (doMove (tm 0))), (wB 8 (doMove (tm 0))), (wB 9 (doP2U (tm 8))), (wB 10 (doMove (tm 9))), (wB 11 (doU2P 58 2 (tm 10))), (wB 12 (doNilCheck (tm 7))), (wB 13 (doFieldAddr 0 (tm 12))), (CO.mk G.none D.none Bool.true (CR.mk (doStore 1 (tm 13) (tm 11))))])
noncomputable abbrev s52_1 : CC := (CC.cond (tm 19) CC.bad CC.skip)
noncomputable abbrev s52_2 : CC := (CC.seq (CC.region [(wB 14 (doMove (tm 0))), (wB 15 (doNilCheck (tm 14))), (wB 16 (doFieldAddr 0 (tm 15))), (wB 17 (doLoad (tm 16))), (wB 18 (doMove (tm 0))), (wB 19 (doPtr Bool.true (tm 17) (tm 18)))]) s52_1)
noncomputable abbrev s52_3 : CC := (CC.cond (tm 6) s52_0 s52_2)
noncomputable abbrev b52 : CC := (CC.seq (CC.region [(wB 2 (doMove (tm 0))), (wB 3 (doNilCheck (tm 2))), (wB 4 (doFieldAddr 0 (tm 3))), (wB 5 (doLoad (tm 4))), (wB 6 (doPtr Bool.false (tm 5) (O.c V.p0)))]) s52_3)
theorem c52 : compFn Try.prog 52 = ⟨20, b52, []⟩ := by kernel_rfl
end Go.Proofs.Ytiingkpdodbldaa

set_option maxRecDepth 100000
set_option maxHeartbeats 8000000
set_option linter.all false
namespace Go.Proofs.Ytiingkpdodbldaa
open Go Go.Ev
section
variable {h : H} {lo : Nat} {id : B} {U : B → Prop} {a : List UInt8}
theorem copyCheck_ok (s : Sb h lo 58 5 id U a) : FnOk Try.prog 52 [.p id 0 0 2] h fun y h' => Sb h' lo 58 5 id U a ∧ Stay U h h' := by
  obtain ⟨⟨adr, w, o, ha, b, hw, hn⟩, hself, hlo⟩ := s
  refine fn_go c52 (by intro hb; cases hb) (by simp) (by simp) fun Q hQ => ?_
  simp only [slotsF, Nat.reduceAdd]
  have or := o.own.row
  rcases ha with rfl | rfl
  · repeat' (first
      | refine St.h ?_
      | simp (disch := first | omega | (simp only [lnv]; omega)) only [wlk, ↓get_put', ↓reduceIte, seval, or.l1, or_ptr, h2_ptr00, h2_ptr01, h2_ptr10, h2_ptr11, or_p2u, or_u2p, o.pu, o.up]
      | (with_reducible (first | apply cd_split | apply gd_split)) <;> (intro hc; (try simp only [hcn] at hc); (try simp only [hc]); (try simp only [hcl] at hc); try omega))
    refine ST.ownE (y := .p id 0 0 2) o rfl rfl (by omega) (by omega) fun h' o' s' => ?_
    repeat' (first
      | refine St.h ?_
      | simp (disch := first | omega | (simp only [lnv]; omega)) only [wlk, ↓get_put', ↓reduceIte, seval]
      | (with_reducible (first | apply cd_split | apply gd_split)) <;> (intro hc; (try simp only [hcn] at hc); (try simp only [hc]); (try simp only [hcl] at hc); try omega))
    subst hQ
    exact ⟨⟨⟨.p id 0 0 2, w, o', .inr rfl, b.stay s' (fun i hi e => hn (by rw [← e]; exact hi)), hw, hn⟩, hself, fun i hi => ⟨(hlo i hi).1, Nat.lt_of_lt_of_le (hlo i hi).2 s'.next⟩⟩, s'.mono fun i _ hi => by rw [hi]; exact hself⟩
  · repeat' (first
      | refine St.h ?_
      | simp (disch := first | omega | (simp only [lnv]; omega)) only [wlk, ↓get_put', ↓reduceIte, seval, or.l1, or_ptr, h2_ptr00, h2_ptr01, h2_ptr10, h2_ptr11]
      | (with_reducible (first | apply cd_split | apply gd_split)) <;> (intro hc; (try simp only [hcn] at hc); (try simp only [hc]); (try simp only [hcl] at hc); try omega))
    subst hQ
    exact ⟨⟨⟨.p id 0 0 2, w, o, .inr rfl, b, hw, hn⟩, hself, hlo⟩, Stay.refl _ _⟩
theorem bld_end {h h1 h2 h3 : H} {w w' adr : V} {c : List UInt8} (hself : U id) (hlo : ∀ i, U i → lo ≤ B.val i ∧ B.val i < B.val h1.next) (hw : ∀ i, isOf w i → U i) (hn : ¬ isOf w id) (hidlt : B.val id < B.val h1.next)
    (ha : adr = .p0 ∨ adr = .p id 0 0 2) (st1 : Stay U h h1) (b2 : Buf h2 5 1 w' ((a ++ c).map bv)) (st2 : Stay (isOf w) h1 h2) (hw2 : ∀ i, isOf w' i → isOf w i ∨ B.val h1.next ≤ B.val i) (o3 : OwnE h3 id 58 [adr, w']) (st3 : Stay (fun i => i = id) h2 h3) :
    ∃ U', Sb h3 lo 58 5 id U' (a ++ c) ∧ Stay U h h3 ∧ ∀ i, U' i → U i ∨ B.val h.next ≤ B.val i := by
  have hn2 : ¬ isOf w' id := fun e => by
    rcases hw2 _ e with h7 | h7
    · exact hn h7
    · omega
  have hlo0 := (hlo _ hself).1
  refine ⟨fun i => U i ∨ isOf w' i, ⟨⟨adr, w', o3, ha, b2.stay st3 (fun i hi e => hn2 (by rw [← e]; exact hi)), fun i hi => .inr hi, hn2⟩, .inl hself, ?_⟩, ?_, ?_⟩
  · have n2 := st2.next
    have n3 := st3.next
    rintro i (hi | hi)
    · have := hlo i hi; omega
    · have h8 := b2.own hi
      rcases hw2 _ hi with h7 | h7
      · have := hlo i (hw i h7); omega
      · omega
  · exact (st1.trans (st2.mono fun i _ hi => hw i hi)).trans (st3.mono fun i _ hi => by rw [hi]; exact hself)
  · have n1 := st1.next
    rintro i (hi | hi)
    · exact .inl hi
    · rcases hw2 _ hi with h7 | h7
      · exact .inl (hw i h7)
      · exact .inr (by omega)
theorem writeString_ok {c : List UInt8} (s : Sb h lo 58 5 id U a) (hl : a.length + c.length ≤ 1048576) (hf : B.val h.floor ≤ B.val h.next) : FnOk Try.prog 24 [.p id 0 0 2, sv c] h fun y h' => ∃ U', Sb h' lo 58 5 id U' (a ++ c) ∧ Stay U h h' ∧ ∀ i, U' i → U i ∨ B.val h.next ≤ B.val i := by
  refine fn_go c24 (by intro hb; cases hb) (by simp) (by simp) fun Q hQ => ?_
  simp only [slotsF, Nat.reduceAdd]
  repeat' (first
    | refine St.h ?_
    | simp (disch := first | omega | (simp only [lnv]; omega)) only [wlk, ↓get_put', ↓reduceIte, seval]
    | (with_reducible (first | apply cd_split | apply gd_split)) <;> (intro hc; (try simp only [hcn] at hc); (try simp only [hc]); (try simp only [hcl] at hc); try omega))
  refine CL.mk (copyCheck_ok s) ?_
  rintro _ h1 ⟨⟨⟨adr, w, o, ha, b, hw, hn⟩, hself, hlo⟩, st1⟩
  have or := o.own.row
  repeat' (first
    | refine St.h ?_
    | simp (disch := first | omega | (simp only [lnv]; omega)) only [wlk, ↓get_put', ↓reduceIte, seval, or.l1]
    | (with_reducible (first | apply cd_split | apply gd_split)) <;> (intro hc; (try simp only [hcn] at hc); (try simp only [hc]); (try simp only [hcl] at hc); try omega))
  refine AS.buf b (st1.fl hf) hl fun w' h2 b2 st2 hw2 tp => ?_
  have o2 := o.stay st2 hn
  obtain ⟨c1, c2, _⟩ := buf_cells b2
  repeat' (first
    | refine St.h ?_
    | simp (disch := first | omega | (simp only [lnv]; omega)) only [wlk, ↓get_put', ↓reduceIte, seval]
    | (with_reducible (first | apply cd_split | apply gd_split)) <;> (intro hc; (try simp only [hcn] at hc); (try simp only [hc]); (try simp only [hcl] at hc); try omega))
  refine ST.ownE o2 c1 c2 (by omega) (by omega) fun h3 o3 st3 => ?_
  repeat' (first
    | refine St.h ?_
    | simp (disch := first | omega | (simp only [lnv]; omega)) only [wlk, ↓get_put', ↓reduceIte, seval]
    | (with_reducible (first | apply cd_split | apply gd_split)) <;> (intro hc; (try simp only [hcn] at hc); (try simp only [hc]); (try simp only [hcl] at hc); try omega))
  subst hQ
  exact bld_end hself hlo hw hn o.lt ha st1 b2 st2 hw2 o3 st3
theorem string_ok (s : Sb h lo 58 5 id U a) (hl : a.length ≤ 1048576) : FnOk Try.prog 31 [.p id 0 0 2] h fun y h' => y = sv a ∧ Stay U h h' := by
  refine fn_go c31 (by intro hb; cases hb) (by simp) (by simp) fun Q hQ => ?_
  simp only [slotsF, Nat.reduceAdd]
  obtain ⟨⟨adr, w, o, ha, b, hw, hn⟩, hself, hlo⟩ := s
  have or := o.own.row
  have hln := fun g N => b.lst.ln (P := Try.prog) (h := g) (N := N)
  rw [List.length_map] at hln
  obtain ⟨pv, hpv1, hpv2⟩ : ∃ pv : V, (∀ g N, H1 Try.prog gSData w g N = N.go Try.prog pv g) ∧ ∀ k : V → Bool, (vL w (fun _ => k .p0) fun id g off len fin _ => k (.p id g off fin)) = k pv := by
    rcases b with ⟨rfl, _⟩ | ⟨i, g, n, blk, rfl, b1, _⟩
    · exact ⟨.p0, fun g N => hv_of fun k => rfl, fun k => rfl⟩
    · refine ⟨.p i g 0 _, fun g N => hv_of fun k => ?_, fun k => rfl⟩
      have : Nat.ble 1 n = true := by rw [Nat.ble_eq]; exact b1
      show (ifK (Nat.ble 1 n) fun _ => k (.p i _ 0 _)) = _
      rw [this, ifK_true]
  repeat' (first
    | refine St.h ?_
    | simp (disch := first | omega | (simp only [lnv]; omega)) only [wlk, ↓get_put', ↓reduceIte, seval, or.l1, or_sdata, hpv1, hln, or_ustr]
    | (with_reducible (first | apply cd_split | apply gd_split)) <;> (intro hc; (try simp only [hcn] at hc); (try simp only [hc]); (try simp only [hcl] at hc); try omega))
  obtain ⟨h', e', st'⟩ := ustr_eq b hl (fun _ _ _ _ => false) F.zero (.c pv) (.c (.i .i64 (a.length : Int))) hpv2 rfl
  refine US.of (v := sv a) (h' := h') (fun k => ?_) ?_
  · have := e' k
    simp only [doUStr, oE_eq] at this
    exact this
  repeat' (first
    | refine St.h ?_
    | simp (disch := first | omega | (simp only [lnv]; omega)) only [wlk, ↓get_put', ↓reduceIte, seval]
    | (with_reducible (first | apply cd_split | apply gd_split)) <;> (intro hc; (try simp only [hcn] at hc); (try simp only [hc]); (try simp only [hcl] at hc); try omega))
  subst hQ
  exact ⟨rfl, st'.mono fun i _ hi => hw i hi⟩
end
end Go.Proofs.Ytiingkpdodbldaa

set_option maxRecDepth 1000000
set_option linter.all false
namespace Go.Proofs.Ytiingkpdodbldaa
open Go Go.Ev
noncomputable abbrev s17_0 : CC := (CC.seq (CC.region [(wB 4 (doMove (O.c (V.b Bool.false))))]) CC.ret)
noncomputable abbrev s17_1 : CC := (CC.cond (tm 10) s17_0 CC.skip)
noncomputable abbrev s17_2 : CC := (CC.seq (CC.region [(wB 6 (doMove (tm 0))), (wB 7 (doLen (tm 6))), (wB 8 (doMove (tm 1))), (wB 9 (doLen (tm 8))), (wB 10 (bin2 fNeq (tm 7) (tm 9)))]) s17_1)
noncomputable abbrev s17_3 : CC := (CC.cond (tm 14) CC.skip (CC.exit 0))
noncomputable abbrev s17_4 : CC := (CC.seq (CC.region [(wB 11 (doMove (tm 5))), (wB 12 (doMove (tm 0))), (wB 13 (doLen (tm 12))), (wB 14 (bin2 fLss (tm 11) (tm 13)))]) s17_3)
noncomputable abbrev s17_5 : CC := (CC.seq (CC.region [(wB 4 (doMove (O.c (V.b Bool.false))))]) CC.ret)
noncomputable abbrev s17_6 : CC := (CC.cond (tm 25) s17_5 CC.skip)
noncomputable abbrev s17_7 : CC := (CC.seq (CC.draws [(uB 17 (doMove (tm 0))), (uB 18 (doMove (tm 5))), (uB 19 (doIndexAddr 4 (tm 17) (tm 18))), (uB 20 (doLoadA 4 (tm 19))), (uB 21 (doMove (tm 1))), (uB 22 (doMove (tm 5))), (uB 23 (doIndexAddr 4 (tm 21) (tm 22))), (uB 24 (doLoadA 4 (tm 23))), (uB 25 (doSEq [KD.s, KD.i, KD.b, KD.s] Bool.true (tm 20) (tm 24)))]) s17_6)
noncomputable abbrev s17_8 : CC := (CC.block 1 s17_7)
noncomputable abbrev s17_9 : CC := (CC.region [(wB 15 (doMove (tm 5))), (wB 16 (bin2 fAdd (tm 15) (oN 1))), (wB 5 (doMove (tm 16)))])
noncomputable abbrev s17_10 : CC := (CC.seq s17_8 s17_9)
noncomputable abbrev l17_0 : CC := (CC.seq s17_4 s17_10)
noncomputable abbrev s17_11 : CC := (CC.loop l17_0)
noncomputable abbrev s17_12 : CC := (CC.block 0 s17_11)
noncomputable abbrev s17_13 : CC := (CC.seq (CC.region [(wB 5 (doMove (oN 0)))]) s17_12)
noncomputable abbrev s17_14 : CC := (CC.seq (CC.region [(wB 4 (doMove (O.c (V.b Bool.true))))]) CC.ret)
noncomputable abbrev s17_15 : CC := (CC.seq s17_13 s17_14)
noncomputable abbrev s17_16 : CC := (CC.seq s17_2 s17_15)
noncomputable abbrev b17 : CC := (CC.seq (CC.region [(wB 4 (doMove (O.c (V.b Bool.false))))]) s17_16)
theorem c17 : compFn Try.prog 17 = ⟨26, b17, [(Rs.tmp (slOf 4))]⟩ := by kernel_rfl
noncomputable abbrev s58_0 : CC := (CC.cond (tm 24) CC.skip (CC.exit 0))
noncomputable abbrev s58_1 : CC := (CC.seq (CC.draws [(uB 6 (doMove (tm 5))), (uB 7 (doMove (tm 0))), (uB 8 (doLenS (tm 7))), (uB 9 (bin2 fLss (tm 6) (tm 8))), (uB 10 (doMove (tm 9))), (uG 10 true 11 (doMove (tm 5))), (uG 10 true 12 (doMove (tm 1))), (uG 10 true 13 (doLenS (tm 12))), (uG 10 true 14 (bin2 fLss (tm 11) (tm 13))), (uB 15 (doPick (tm 10) (tm 14) (O.c (V.b Bool.false)))), (uB 16 (doMove (tm 15))), (uG 16 true 17 (doMove (tm 0))), (uG 16 true 18 (doMove (tm 5))), (uG 16 true 19 (doSIndex (tm 17) (tm 18))), (uG 16 true 20 (doMove (tm 1))), (uG 16 true 21 (doMove (tm 5))), (uG 16 true 22 (doSIndex (tm 20) (tm 21))), (uG 16 true 23 (bin2 fEql (tm 19) (tm 22))), (uB 24 (doPick (tm 16) (tm 23) (O.c (V.b Bool.false))))]) s58_0)
noncomputable abbrev s58_2 : CC := (CC.region [(wB 25 (doMove (tm 5))), (wB 26 (bin2 fAdd (tm 25) (oN 1))), (wB 5 (doMove (tm 26)))])
noncomputable abbrev s58_3 : CC := (CC.block 1 s58_2)
noncomputable abbrev l58_0 : CC := (CC.seq s58_1 s58_3)
noncomputable abbrev s58_4 : CC := (CC.loop l58_0)
noncomputable abbrev s58_5 : CC := (CC.block 0 s58_4)
noncomputable abbrev s58_6 : CC := (CC.seq (CC.region [(wB 27 (doMove (tm 5))), (wB 4 (doMove (tm 27)))]) CC.ret)
noncomputable abbrev s58_7 : CC := (CC.seq s58_5 s58_6)
noncomputable abbrev s58_8 : CC := (CC.seq (CC.region [(wB 5 (doMove (oN 0)))]) s58_7)
noncomputable abbrev b58 : CC := (CC.seq (CC.region [(wB 4 (doMove (oN 0)))]) s58_8)
theorem c58 : compFn Try.prog 58 = ⟨28, b58, [(Rs.tmp (slOf 4))]⟩ := by kernel_rfl
end Go.Proofs.Ytiingkpdodbldaa

set_option maxRecDepth 1000000
set_option linter.all false
namespace Go.Proofs.Ytiingkpdodbldaa
open Go Go.Ev
noncomputable abbrev s76_0 : CC := (CC.cond (tm 9) CC.skip (CC.exit 0))
noncomputable abbrev s76_1 : CC := (CC.region [(wB 18 (doMove (tm 4))), (wB 19 (doMove (tm 3))), (wB 20 (bin2 fAdd (tm 18) (tm 19))), (wB 21 (doRem (tm 20) (O.c (V.i IntKind.u32 (Int.ofNat 65521))))), (wB 4 (doMove (tm 21)))])
noncomputable abbrev s76_2 : CC := (CC.seq (CC.region [(wB 11 (doMove (tm 3))), (wB 12 (doMove (tm 0))), (wB 13 (doMove (tm 5))), (wB 14 (doSIndex (tm 12) (tm 13))), (wB 15 (doConv IntKind.u32 (tm 14))), (wB 16 (bin2 fAdd (tm 11) (tm 15))), (wB 17 (doRem (tm 16) (O.c (V.i IntKind.u32 (Int.ofNat 65521))))), (wB 3 (doMove (tm 17)))]) s76_1)
noncomputable abbrev s76_3 : CC := (CC.seq (CC.region [(wB 10 (doMove (tm 8))), (wB 5 (doMove (tm 10)))]) s76_2)
noncomputable abbrev s76_4 : CC := (CC.block 1 s76_3)
noncomputable abbrev s76_5 : CC := (CC.region [(wB 22 (bin2 fAdd (tm 8) (oN 1))), (wB 8 (doMove (tm 22)))])
noncomputable abbrev s76_6 : CC := (CC.seq s76_4 s76_5)
noncomputable abbrev s76_7 : CC := (CC.seq s76_0 s76_6)
noncomputable abbrev l76_0 : CC := (CC.seq (CC.region [(wB 9 (bin2 fLss (tm 8) (tm 7)))]) s76_7)
noncomputable abbrev s76_8 : CC := (CC.loop l76_0)
noncomputable abbrev s76_9 : CC := (CC.block 0 s76_8)
noncomputable abbrev s76_10 : CC := (CC.seq (CC.region [(wB 6 (doMove (tm 0))), (wB 7 (doLenS (tm 6))), (wB 8 (doMove (oN 0)))]) s76_9)
noncomputable abbrev s76_11 : CC := (CC.seq (CC.region [(wB 23 (doMove (tm 4))), (wB 24 (doShift shlF (tm 23) (O.c (V.i IntKind.u64 (Int.ofNat 16))))), (wB 25 (doMove (tm 3))), (wB 26 (bin2 fOr (tm 24) (tm 25))), (wB 2 (doMove (tm 26)))]) CC.ret)
noncomputable abbrev s76_12 : CC := (CC.seq s76_10 s76_11)
noncomputable abbrev s76_13 : CC := (CC.seq (CC.region [(wB 3 (doMove (O.c (V.i IntKind.u32 (Int.ofNat 1))))), (wB 4 (doMove (O.c (V.i IntKind.u32 (Int.ofNat 0)))))]) s76_12)
noncomputable abbrev b76 : CC := (CC.seq (CC.region [(wB 2 (doMove (O.c (V.i IntKind.u32 (Int.ofNat 0)))))]) s76_13)
theorem c76 : compFn Try.prog 76 = ⟨27, b76, [(Rs.tmp (slOf 2))]⟩ := by kernel_rfl
noncomputable abbrev s54_0 : CC := (CC.seq (CC.region [(wB 6 (doMove (tm 3))), (wB 7 (doShift shrF (tm 6) (O.c (V.i IntKind.u64 (Int.ofNat 24))))), (wB 8 (doConv IntKind.u8 (tm 7))), (wB 9 (doMove (tm 3))), (wB 10 (doShift shrF (tm 9) (O.c (V.i IntKind.u64 (Int.ofNat 16))))), (wB 11 (doConv IntKind.u8 (tm 10))), (wB 12 (doMove (tm 3))), (wB 13 (doShift shrF (tm 12) (O.c (V.i IntKind.u64 (Int.ofNat 8))))), (wB 14 (doConv IntKind.u8 (tm 13))), (wB 15 (doMove (tm 3))), (wB 16 (doConv IntKind.u8 (tm 15))), (wB 17 (doBuildSlice 5 4 [(V.i IntKind.u8 (Int.ofNat 0)), (V.i IntKind.u8 (Int.ofNat 0)), (V.i IntKind.u8 (Int.ofNat 0)), (V.i IntKind.u8 (Int.ofNat 0))] [(Pt.mk 0 1 (tm 8)), (Pt.mk 1 1 (tm 11)), (Pt.mk 2 1 (tm 14)), (Pt.mk 3 1 (tm 16))])), (wB 18 (doB2S (tm 17))), (wB 2 (doMove (tm 18)))]) CC.ret)
noncomputable abbrev s54_1 : CC := (CC.seq (CC.region [(wB 4 (doMove (tm 0))), (wB 5 (doCall 76 [(tm 4)])), (wB 3 (doMove (tm 5)))]) s54_0)
noncomputable abbrev b54 : CC := (CC.seq (CC.region [(wB 2 (doMove (O.c (V.s 0 0))))]) s54_1)
theorem c54 : compFn Try.prog 54 = ⟨19, b54, [(Rs.tmp (slOf 2))]⟩ := by kernel_rfl
noncomputable abbrev s26_0 : CC := (CC.seq (CC.region [(wB 3 (doMove (tm 0))), (wB 4 (doLenS (tm 3))), (wB 5 (doCall 53 [(tm 4)])), (wB 6 (doMove (tm 0))), (wB 7 (doCall 54 [(tm 6)])), (wB 8 (doConcat (tm 5) (tm 7))), (wB 9 (doMove (tm 0))), (wB 10 (doConcat (tm 8) (tm 9))), (wB 2 (doMove (tm 10)))]) CC.ret)
noncomputable abbrev b26 : CC := (CC.seq (CC.region [(wB 2 (doMove (O.c (V.s 0 0))))]) s26_0)
theorem c26 : compFn Try.prog 26 = ⟨11, b26, [(Rs.tmp (slOf 2))]⟩ := by kernel_rfl
noncomputable abbrev s40_0 : CC := (CC.seq (CC.region [(wB 2 (doMove (O.c (V.s 0 0)))), (wB 3 (doMove (oN 0))), (wB 4 (doMove (oN 12)))]) CC.ret)
noncomputable abbrev s40_1 : CC := (CC.seq (CC.region [(wB 2 (doMove (O.c (V.s 0 0)))), (wB 3 (doMove (oN 0))), (wB 4 (doMove (oN 13)))]) CC.ret)
noncomputable abbrev s40_2 : CC := (CC.cond (tm 20) s40_0 s40_1)
noncomputable abbrev s40_3 : CC := (CC.seq (CC.region [(wB 21 (bin2 fEql (tm 17) (oN 12))), (wB 20 (doMove (tm 21)))]) s40_2)
noncomputable abbrev s40_4 : CC := (CC.cond (tm 18) CC.skip s40_3)
noncomputable abbrev s40_5 : CC := (CC.seq (CC.region [(wB 19 (bin2 fEql (tm 17) (oN 0))), (wB 18 (doMove (tm 19)))]) s40_4)
noncomputable abbrev s40_6 : CC := (CC.block 0 s40_5)
noncomputable abbrev s40_7 : CC := (CC.seq (CC.region [(wB 17 (doMove (tm 7)))]) s40_6)
noncomputable abbrev s40_8 : CC := (CC.seq (CC.region [(wB 2 (doMove (O.c (V.s 0 0)))), (wB 3 (doMove (oN 0))), (wB 4 (doMove (oN 12)))]) CC.ret)
noncomputable abbrev s40_9 : CC := (CC.cond (tm 29) s40_8 CC.skip)
noncomputable abbrev s40_10 : CC := (CC.seq (CC.region [(wB 25 (doMove (tm 5))), (wB 26 (doMove (tm 8))), (wB 27 (doLenS (tm 26))), (wB 28 (bin2 fSub (tm 27) (oN 4))), (wB 29 (bin2 fGtr (tm 25) (tm 28)))]) s40_9)
noncomputable abbrev s40_11 : CC := (CC.seq (CC.region [(wB 2 (doMove (O.c (V.s 0 0)))), (wB 3 (doMove (oN 0))), (wB 4 (doMove (oN 13)))]) CC.ret)
noncomputable abbrev s40_12 : CC := (CC.cond (tm 39) s40_11 CC.skip)
noncomputable abbrev s40_13 : CC := (CC.seq (CC.region [(wB 36 (doMove (tm 9))), (wB 37 (doMove (tm 10))), (wB 38 (doCall 54 [(tm 37)])), (wB 39 (doSCmp (fun a b c d => !eqS a b c d) (tm 36) (tm 38)))]) s40_12)
noncomputable abbrev s40_14 : CC := (CC.seq (CC.region [(wB 40 (doMove (tm 10))), (wB 41 (doMove (tm 6))), (wB 42 (bin2 fAdd (tm 41) (oN 4))), (wB 43 (doMove (tm 5))), (wB 44 (bin2 fAdd (tm 42) (tm 43))), (wB 2 (doMove (tm 40))), (wB 3 (doMove (tm 44))), (wB 4 (doMove (oN 0)))]) CC.ret)
noncomputable abbrev s40_15 : CC := (CC.seq s40_13 s40_14)
noncomputable abbrev s40_16 : CC := (CC.seq (CC.draws [(uB 30 (doMove (tm 8))), (uB 31 (doSSlice (tm 30) none (some (oN 4)))), (uB 32 (doMove (tm 8))), (uB 33 (doMove (tm 5))), (uB 34 (bin2 fAdd (oN 4) (tm 33))), (uB 35 (doSSlice (tm 32) (some (oN 4)) (some (tm 34)))), (uB 9 (doMove (tm 31))), (uB 10 (doMove (tm 35)))]) s40_15)
noncomputable abbrev s40_17 : CC := (CC.seq s40_10 s40_16)
noncomputable abbrev s40_18 : CC := (CC.seq (CC.region [(wB 22 (doMove (tm 0))), (wB 23 (doMove (tm 6))), (wB 24 (doSSlice (tm 22) (some (tm 23)) none)), (wB 8 (doMove (tm 24)))]) s40_17)
noncomputable abbrev s40_19 : CC := (CC.seq s40_7 s40_18)
noncomputable abbrev s40_20 : CC := (CC.seq (CC.region [(wB 12 (doMove (tm 0))), (wB 13 (doCall 64 [(tm 12)])), (wB 11 (doMove (tm 13))), (wB 14 (doExtract 0 (tm 11))), (wB 15 (doExtract 1 (tm 11))), (wB 16 (doExtract 2 (tm 11))), (wB 5 (doMove (tm 14))), (wB 6 (doMove (tm 15))), (wB 7 (doMove (tm 16)))]) s40_19)
noncomputable abbrev b40 : CC := (CC.seq (CC.region [(wB 2 (doMove (O.c (V.s 0 0)))), (wB 3 (doMove (oN 0))), (wB 4 (doMove (oN 0)))]) s40_20)
theorem c40 : compFn Try.prog 40 = ⟨45, b40, [(Rs.tmp (slOf 2)), (Rs.tmp (slOf 3)), (Rs.tmp (slOf 4))]⟩ := by kernel_rfl
noncomputable abbrev s60_0 : CC := (CC.seq (CC.region [(wB 3 (doMove (tm 0))), (wB 4 (doShift shrF (tm 3) (O.c (V.i IntKind.u64 (Int.ofNat 24))))), (wB 5 (doConv IntKind.u8 (tm 4))), (wB 6 (doMove (tm 0))), (wB 7 (doShift shrF (tm 6) (O.c (V.i IntKind.u64 (Int.ofNat 16))))), (wB 8 (doConv IntKind.u8 (tm 7))), (wB 9 (doMove (tm 0))), (wB 10 (doShift shrF (tm 9) (O.c (V.i IntKind.u64 (Int.ofNat 8))))), (wB 11 (doConv IntKind.u8 (tm 10))), (wB 12 (doMove (tm 0))), (wB 13 (doConv IntKind.u8 (tm 12))), (wB 14 (doBuildSlice 5 4 [(V.i IntKind.u8 (Int.ofNat 0)), (V.i IntKind.u8 (Int.ofNat 0)), (V.i IntKind.u8 (Int.ofNat 0)), (V.i IntKind.u8 (Int.ofNat 0))] [(Pt.mk 0 1 (tm 5)), (Pt.mk 1 1 (tm 8)), (Pt.mk 2 1 (tm 11)), (Pt.mk 3 1 (tm 13))])), (wB 15 (doB2S (tm 14))), (wB 2 (doMove (tm 15)))]) CC.ret)
noncomputable abbrev b60 : CC := (CC.seq (CC.region [(wB 2 (doMove (O.c (V.s 0 0))))]) s60_0)
theorem c60 : compFn Try.prog 60 = ⟨16, b60, [(Rs.tmp (slOf 2))]⟩ := by kernel_rfl
end Go.Proofs.Ytiingkpdodbldaa

set_option maxRecDepth 100000
set_option maxHeartbeats 8000000
set_option linter.all false
namespace Go.Proofs.Ytiingkpdodbldaa
open Go Go.Ev
theorem sum_ok {h : H} {l : List UInt8} (hl : l.length ≤ 1000000) : FnOk Try.prog 76 [sv l] h fun y h' => y = .i .u32 (sumB l : Int) ∧ h' = h := by
  refine fn_go c76 (by intro hb; cases hb) (by simp) (by simp) fun Q hQ => ?_
  simp only [slotsF, Nat.reduceAdd]
  repeat' (first
    | refine St.h ?_
    | simp (disch := first | omega | (simp only [lnv]; omega)) only [wlk, ↓get_put', ↓reduceIte, seval]
    | (with_reducible (first | apply cd_split | apply gd_split)) <;> (intro hc; (try simp only [hcn] at hc); (try simp only [hc]); (try simp only [hcl] at hc); try omega))
  refine Ok.lp (fun m t g => ∃ i : Nat, i ≤ l.length ∧ m = l.length - i ∧ g = h ∧ get 0 t = sv l ∧ get 3 t = .i .u32 ((adl (l.take i)).1 : Int) ∧ get 4 t = .i .u32 ((adl (l.take i)).2 : Int) ∧ get 7 t = .i .i64 (l.length : Int) ∧ get 8 t = .i .i64 (i : Int)) l.length ?_ ?_
  · simp (disch := first | omega | (simp only [lnv]; omega)) only [wlk, ↓get_put', ↓reduceIte, seval]
    exact ⟨0, by omega, rfl, trivial, trivial, rfl, rfl, trivial, rfl⟩
  rintro I hI m t g ⟨i, hi, rfl, rfl, f0, f3, f4, f7, f8⟩
  have hci := (l.getD i 0).toNat_lt
  have ⟨b1, b2⟩ := adl_lt (l.take i)
  repeat' (first
    | refine St.h ?_
    | simp (disch := first | omega | (simp only [lnv]; omega)) only [wlk, ↓get_put', ↓reduceIte, seval, f0, f3, f4, f7, f8]
    | (with_reducible (first | apply cd_split | apply gd_split)) <;> (intro hc; (try simp only [hcn] at hc); (try simp only [hc]); (try simp only [hcl] at hc); try omega))
  · have e := adl_take (l := l) (i := i) (by omega)
    refine lp_next hI (l.length - (i + 1)) (by omega) ⟨i + 1, by omega, rfl, rfl, ?_, ?_, ?_, ?_, ?_⟩
    · simp (disch := first | omega | (simp only [lnv]; omega)) only [wlk, ↓get_put', ↓reduceIte, seval, f0]
    · simp (disch := first | omega | (simp only [lnv]; omega)) only [wlk, ↓get_put', ↓reduceIte, seval, e, adlStep]; rfl
    · simp (disch := first | omega | (simp only [lnv]; omega)) only [wlk, ↓get_put', ↓reduceIte, seval, e, adlStep]; rfl
    · simp (disch := first | omega | (simp only [lnv]; omega)) only [wlk, ↓get_put', ↓reduceIte, seval, f7]
    · simp (disch := first | omega | (simp only [lnv]; omega)) only [wlk, ↓get_put', ↓reduceIte, seval]; rfl
  · obtain rfl : i = l.length := by omega
    rw [List.take_length] at *
    have e : (((adl l).2 : Int) * 65536).toNat ||| (adl l).1 = sumB l := by
      rw [show (((adl l).2 : Int) * 65536).toNat = 2 ^ 16 * (adl l).2 by omega, ← Nat.two_pow_add_eq_or_of_lt (by omega)]
      unfold sumB; omega
    subst hQ
    simp (disch := first | omega | (simp only [lnv]; omega)) only [wlk, ↓get_put', ↓reduceIte, seval, e]
theorem fourB_cells {n : Nat} (h : n < 4294967296) : ([V.i .u8 ((n / 16777216 : Nat) : Int), V.i .u8 ((n / 65536 % 256 : Nat) : Int), V.i .u8 ((n / 256 % 256 : Nat) : Int), V.i .u8 ((n % 256 : Nat) : Int)] : List V) = (fourB n).map bv := by
  have e1 : n / 16777216 = n / 16777216 % 256 := by omega
  rw [e1]
  simp only [bv_ofNat]
  unfold fourB
  simp [u8_mod]
theorem four_ok {h : H} {n : Nat} (hn : n < 4294967296) (hf : B.val h.floor ≤ B.val h.next) : FnOk Try.prog 60 [.i .u32 (n : Int)] h fun y h' => y = sv (fourB n) ∧ Stay nowhere h h' := by
  refine fn_go c60 (by intro hb; cases hb) (by simp) (by simp) fun Q hQ => ?_
  simp only [slotsF, Nat.reduceAdd]
  repeat' (first
    | refine St.h ?_
    | simp (disch := first | omega | (simp only [lnv]; omega)) only [wlk, ↓get_put', ↓reduceIte, seval, wrap_u8m]
    | (with_reducible (first | apply cd_split | apply gd_split)) <;> (intro hc; (try simp only [hcn] at hc); (try simp only [hc]); (try simp only [hcl] at hc); try omega))
  refine AL.str (bs := fourB n) (fourB_cells hn) (by simp [fourB]) rfl rfl (by simp [fourB]) hf fun h' u s1 => ?_
  repeat' (first
    | refine St.h ?_
    | simp (disch := first | omega | (simp only [lnv]; omega)) only [wlk, ↓get_put', ↓reduceIte, seval]
    | (with_reducible (first | apply cd_split | apply gd_split)) <;> (intro hc; (try simp only [hcn] at hc); (try simp only [hc]); (try simp only [hcl] at hc); try omega))
  subst hQ
  exact ⟨rfl, s1⟩
theorem sumBytes_ok {h : H} {l : List UInt8} (hl : l.length ≤ 1000000) (hf : B.val h.floor ≤ B.val h.next) : FnOk Try.prog 54 [sv l] h fun y h' => y = sv (fourB (sumB l)) ∧ Stay nowhere h h' := by
  refine fn_go c54 (by intro hb; cases hb) (by simp) (by simp) fun Q hQ => ?_
  simp only [slotsF, Nat.reduceAdd]
  have hn := sumB_lt l
  repeat' (first
    | refine St.h ?_
    | simp (disch := first | omega | (simp only [lnv]; omega)) only [wlk, ↓get_put', ↓reduceIte, seval]
    | (with_reducible (first | apply cd_split | apply gd_split)) <;> (intro hc; (try simp only [hcn] at hc); (try simp only [hc]); (try simp only [hcl] at hc); try omega))
  refine CL.pure (sum_ok hl) ?_
  repeat' (first
    | refine St.h ?_
    | simp (disch := first | omega | (simp only [lnv]; omega)) only [wlk, ↓get_put', ↓reduceIte, seval, wrap_u8m]
    | (with_reducible (first | apply cd_split | apply gd_split)) <;> (intro hc; (try simp only [hcn] at hc); (try simp only [hc]); (try simp only [hcl] at hc); try omega))
  refine AL.str (bs := fourB (sumB l)) (fourB_cells hn) (by simp [fourB]) rfl rfl (by simp [fourB]) hf fun h' u s1 => ?_
  repeat' (first
    | refine St.h ?_
    | simp (disch := first | omega | (simp only [lnv]; omega)) only [wlk, ↓get_put', ↓reduceIte, seval]
    | (with_reducible (first | apply cd_split | apply gd_split)) <;> (intro hc; (try simp only [hcn] at hc); (try simp only [hc]); (try simp only [hcl] at hc); try omega))
  subst hQ
  exact ⟨rfl, s1⟩
theorem seal_ok {h : H} {l : List UInt8} (hl : l.length ≤ 1000000) (hf : B.val h.floor ≤ B.val h.next) : FnOk Try.prog 26 [sv l] h fun y h' => y = sv (sealB l) ∧ Stay nowhere h h' := by
  refine fn_go c26 (by intro hb; cases hb) (by simp) (by simp) fun Q hQ => ?_
  simp only [slotsF, Nat.reduceAdd]
  have h9 := numB_len (n := l.length) (by omega)
  have h4 := fourB_len (sumB l)
  repeat' (first
    | refine St.h ?_
    | simp (disch := first | omega | (simp only [lnv]; omega)) only [wlk, ↓get_put', ↓reduceIte, seval]
    | (with_reducible (first | apply cd_split | apply gd_split)) <;> (intro hc; (try simp only [hcn] at hc); (try simp only [hc]); (try simp only [hcl] at hc); try omega))
  refine CL.stay (num_ok (by omega) hf) fun h1 s1 => ?_
  repeat' (first
    | refine St.h ?_
    | simp (disch := first | omega | (simp only [lnv]; omega)) only [wlk, ↓get_put', ↓reduceIte, seval]
    | (with_reducible (first | apply cd_split | apply gd_split)) <;> (intro hc; (try simp only [hcn] at hc); (try simp only [hc]); (try simp only [hcl] at hc); try omega))
  refine CL.stay (sumBytes_ok hl (s1.fl hf)) fun h2 s2 => ?_
  repeat' (first
    | refine St.h ?_
    | simp (disch := first | omega | (simp only [lnv]; omega)) only [wlk, ↓get_put', ↓reduceIte, seval]
    | (with_reducible (first | apply cd_split | apply gd_split)) <;> (intro hc; (try simp only [hcn] at hc); (try simp only [hc]); (try simp only [hcl] at hc); try omega))
  subst hQ
  exact ⟨rfl, s1.trans s2⟩
/-- what Open tells, as a value -/
def opn (l : List UInt8) : V := .tu [sv (openB l).1, .i .i64 (openB l).2.1, .i .i64 (openB l).2.2]
theorem open_ok {h : H} {l : List UInt8} (hl : l.length ≤ 1000000) (hf : B.val h.floor ≤ B.val h.next) : FnOk Try.prog 40 [sv l] h fun y h' => y = opn l ∧ Stay nowhere h h' := by
  refine fn_go c40 (by intro hb; cases hb) (by simp) (by simp) fun Q hQ => ?_
  simp only [slotsF, Nat.reduceAdd]
  repeat' (first
    | refine St.h ?_
    | simp (disch := first | omega | (simp only [lnv]; omega)) only [wlk, ↓get_put', ↓reduceIte, seval]
    | (with_reducible (first | apply cd_split | apply gd_split)) <;> (intro hc; (try simp only [hcn] at hc); (try simp only [hc]); (try simp only [hcl] at hc); try omega))
  refine CL.pure (takeNum_ok hl) ?_
  rcases takeN_range l with (hc | hc) | ⟨n, k, hc, h1, h2, h3, h4⟩
  · have e : openB l = ([], 0, 13) := by unfold openB; rw [hc]; rfl
    rw [hc]; unfold tri
    repeat' (first
      | refine St.h ?_
      | simp (disch := first | omega | (simp only [lnv]; omega)) only [wlk, ↓get_put', ↓reduceIte, seval]
      | (with_reducible (first | apply cd_split | apply gd_split)) <;> (intro hc; (try simp only [hcn] at hc); (try simp only [hc]); (try simp only [hcl] at hc); try omega))
    subst hQ
    exact ⟨by unfold opn; rw [e], Stay.refl _ _⟩
  · have e : openB l = ([], 0, 12) := by unfold openB; rw [hc]; rfl
    rw [hc]; unfold tri
    repeat' (first
      | refine St.h ?_
      | simp (disch := first | omega | (simp only [lnv]; omega)) only [wlk, ↓get_put', ↓reduceIte, seval]
      | (with_reducible (first | apply cd_split | apply gd_split)) <;> (intro hc; (try simp only [hcn] at hc); (try simp only [hc]); (try simp only [hcl] at hc); try omega))
    subst hQ
    exact ⟨by unfold opn; rw [e], Stay.refl _ _⟩
  have e := openB_num hc
  rw [hc]; unfold tri
  have hd : (l.drop k).length = l.length - k := List.length_drop
  repeat' (first
    | refine St.h ?_
    | simp (disch := first | omega | (simp only [lnv]; omega)) only [wlk, ↓get_put', ↓reduceIte, seval, Int.toNat_natCast]
    | (with_reducible (first | apply cd_split | apply gd_split)) <;> (intro hc; (try simp only [hcn] at hc); (try simp only [hc]); (try simp only [hcl] at hc); try omega))
  · rw [if_pos (by omega)] at e
    subst hQ
    exact ⟨by unfold opn; rw [e], Stay.refl _ _⟩
  rw [if_neg (by omega)] at e
  have ht : ((l.drop k).take (4 + (n : Int)).toNat).drop 4 = (l.drop (k + 4)).take n := by
    rw [show (4 + (n : Int)).toNat = 4 + n by omega, List.drop_take, List.drop_drop]
    congr 1; omega
  rw [ht]
  have htl : ((l.drop (k + 4)).take n).length ≤ 1000000 := by rw [List.length_take, List.length_drop]; omega
  refine CL.stay (sumBytes_ok htl hf) fun h1' s1 => ?_
  repeat' (first
    | refine St.h ?_
    | simp (disch := first | omega | (simp only [lnv]; omega)) only [wlk, ↓get_put', ↓reduceIte, seval]
    | (with_reducible (first | apply cd_split | apply gd_split)) <;> (intro hc; (try simp only [hcn] at hc); (try simp only [hc]); (try simp only [hcl] at hc); try omega))
  all_goals subst hQ
  · rw [if_pos (fun e' => hc e'.symm)] at e
    exact ⟨by unfold opn; rw [e], s1⟩
  · rw [if_neg (by intro e'; exact e' hc.symm)] at e
    exact ⟨by unfold opn; rw [e], s1⟩
end Go.Proofs.Ytiingkpdodbldaa

set_option maxRecDepth 100000
set_option maxHeartbeats 8000000
set_option linter.all false
namespace Go.Proofs.Ytiingkpdodbldaa
open Go Go.Ev
theorem rshared_ok {h : H} {a b : List UInt8} (ha : a.length ≤ 1000000) (hb : b.length ≤ 1000000) : FnOk Try.prog 58 [sv a, sv b] h fun y h' => y = .i .i64 (sharedB a b : Int) ∧ h' = h := by
  refine fn_go c58 (by intro hb; cases hb) (by simp) (by simp) fun Q hQ => ?_
  simp only [slotsF, Nat.reduceAdd]
  repeat' (first
    | refine St.h ?_
    | simp (disch := first | omega | (simp only [lnv]; omega)) only [wlk, ↓get_put', ↓reduceIte, seval]
    | (with_reducible (first | apply cd_split | apply gd_split)) <;> (intro hc; (try simp only [hcn] at hc); (try simp only [hc]); (try simp only [hcl] at hc); try omega))
  refine Ok.lp (fun m t g => ∃ n : Nat, m = a.length - n ∧ h = g ∧ n ≤ a.length ∧ n ≤ b.length ∧ (∀ i, i < n → a.getD i 0 = b.getD i 0) ∧ get 0 t = sv a ∧ get 1 t = sv b ∧ get 5 t = .i .i64 (n : Int)) a.length ?_ ?_
  · simp (disch := first | omega | (simp only [lnv]; omega)) only [wlk, ↓get_put', ↓reduceIte, seval]
    refine ⟨0, by omega, trivial, by omega, by omega, fun i hi => by omega, ?_⟩
    repeat' (first | trivial | rfl | refine And.intro ?_ ?_)
  rintro I hI m t g ⟨n, rfl, rfl, h1, h2, he, f0, f1, f5⟩
  have da : n < a.length → (a.getD n 0).toNat < 256 := fun _ => (a.getD n 0).toNat_lt
  have fin : (n = a.length ∨ n = b.length ∨ a.getD n 0 ≠ b.getD n 0) → sharedB a b = n := sharedB_at h1 h2 he
  repeat' (first
    | refine St.h ?_
    | simp (disch := first | omega | (simp only [lnv]; omega)) only [wlk, ↓get_put', ↓reduceIte, seval, f0, f1, f5, Int.toNat_natCast]
    | (with_reducible (first | apply cd_split | apply gd_split)) <;> (intro hc; (try simp only [hcn] at hc); (try simp only [hc]); (try simp only [hcl] at hc); try omega))
  · refine lp_next hI (a.length - (n + 1)) (by omega) ⟨n + 1, rfl, rfl, by omega, by omega, fun i hi => ?_, ?_, ?_, ?_⟩
    · by_cases e : i = n
      · subst e; exact UInt8.toNat_inj.1 (by omega)
      · exact he i (by omega)
    · simp (disch := first | omega | (simp only [lnv]; omega)) only [wlk, ↓get_put', ↓reduceIte, seval, f0]
    · simp (disch := first | omega | (simp only [lnv]; omega)) only [wlk, ↓get_put', ↓reduceIte, seval, f1]
    · simp (disch := first | omega | (simp only [lnv]; omega)) only [wlk, ↓get_put', ↓reduceIte, seval]; rfl
  · subst hQ
    exact ⟨by rw [fin (.inr (.inr fun e => by have := congrArg UInt8.toNat e; omega))], rfl⟩
  · subst hQ
    exact ⟨by rw [fin (.inr (.inl (by omega)))], rfl⟩
  · subst hQ
    exact ⟨by rw [fin (.inl (by omega))], rfl⟩
theorem ent_ext {a b : Ent} (h : a.key = b.key ∧ a.seq = b.seq ∧ a.del = b.del ∧ a.val = b.val) : a = b := by
  obtain ⟨k1, q1, d1, v1⟩ := a
  obtain ⟨k2, q2, d2, v2⟩ := b
  obtain ⟨rfl, rfl, rfl, rfl⟩ := h
  rfl
theorem rsame_ok {h : H} {v w : V} {L M : List Ent} (hL : Es h v L) (hM : Es h w M) (hl : L.length ≤ 9223372036854775807) : FnOk Try.prog 17 [v, w] h fun y h' => y = .b (decide (L = M)) ∧ h' = h := by
  refine fn_go c17 (by intro hb; cases hb) (by simp) (by simp) fun Q hQ => ?_
  simp only [slotsF, Nat.reduceAdd]
  by_cases hlen : L.length = M.length
  case neg =>
    have hd : ((L.length : Int) = (M.length : Int)) = False := eq_false (by omega)
    repeat' (first
      | refine St.h ?_
      | simp (disch := first | omega | (simp only [lnv]; omega)) only [wlk, ↓get_put', ↓reduceIte, seval, hL.ln, hM.ln, hd]
      | (with_reducible (first | apply cd_split | apply gd_split)) <;> (intro hc; (try simp only [hcn] at hc); (try simp only [hc]); (try simp only [hcl] at hc); try omega))
    subst hQ
    exact ⟨by rw [decide_eq_false (fun e => hlen (by rw [e]))], rfl⟩
  have hd : ((L.length : Int) = (M.length : Int)) = True := eq_true (by omega)
  repeat' (first
    | refine St.h ?_
    | simp (disch := first | omega | (simp only [lnv]; omega)) only [wlk, ↓get_put', ↓reduceIte, seval, hL.ln, hM.ln, hd]
    | (with_reducible (first | apply cd_split | apply gd_split)) <;> (intro hc; (try simp only [hcn] at hc); (try simp only [hc]); (try simp only [hcl] at hc); try omega))
  refine Ok.lp (fun m t g => ∃ j : Nat, m = L.length - j ∧ h = g ∧ (∀ i, i < j → L.getD i default = M.getD i default) ∧ j ≤ L.length ∧ get 0 t = v ∧ get 1 t = w ∧ get 5 t = .i .i64 (j : Int)) L.length ?_ ?_
  · simp (disch := first | omega | (simp only [lnv]; omega)) only [wlk, ↓get_put', ↓reduceIte, seval]
    refine ⟨0, by omega, trivial, fun i hi => by omega, by omega, ?_⟩
    repeat' (first | trivial | rfl | refine And.intro ?_ ?_)
  rintro I hI m t g ⟨j, rfl, rfl, he, hj, f0, f1, f5⟩
  by_cases hje : L.getD j default = M.getD j default
  · have hd2 : (M.getD j default).key = (M.getD j default).key ∧ (M.getD j default).seq = (M.getD j default).seq ∧ (M.getD j default).del = (M.getD j default).del ∧ (M.getD j default).val = (M.getD j default).val := ⟨rfl, rfl, rfl, rfl⟩
    repeat' (first
      | refine St.h ?_
      | simp (disch := first | omega | (simp only [lnv]; omega)) only [wlk, ↓get_put', ↓reduceIte, seval, f0, f1, f5, hL.ln, hL.ix, hM.ix, hL.la, hM.la, hje, Int.toNat_natCast]
      | (with_reducible (first | apply cd_split | apply gd_split)) <;> (intro hc; (try simp only [hcn] at hc); (try simp only [hc]); (try simp only [hcl] at hc); try omega))
    · refine lp_next hI (L.length - (j + 1)) (by omega) ⟨j + 1, rfl, rfl, fun i hi => ?_, by omega, ?_, ?_, ?_⟩
      · by_cases e : i = j
        · subst e; exact hje
        · exact he i (by omega)
      · simp (disch := first | omega | (simp only [lnv]; omega)) only [wlk, ↓get_put', ↓reduceIte, seval, f0]
      · simp (disch := first | omega | (simp only [lnv]; omega)) only [wlk, ↓get_put', ↓reduceIte, seval, f1]
      · simp (disch := first | omega | (simp only [lnv]; omega)) only [wlk, ↓get_put', ↓reduceIte, seval]; rfl
    · obtain rfl : j = L.length := by omega
      subst hQ
      refine ⟨?_, rfl⟩
      rw [decide_eq_true]
      refine List.ext_getElem hlen fun i h1 h2 => ?_
      have := he i h1
      simpa [List.getD, h1, h2] using this
  · have hd2 : decide ((L.getD j default).key = (M.getD j default).key ∧ (L.getD j default).seq = (M.getD j default).seq ∧ (L.getD j default).del = (M.getD j default).del ∧ (L.getD j default).val = (M.getD j default).val) = false := decide_eq_false fun e => hje (ent_ext e)
    repeat' (first
      | refine St.h ?_
      | simp (disch := first | omega | (simp only [lnv]; omega)) only [wlk, ↓get_put', ↓reduceIte, seval, f0, f1, f5, hL.ln, hL.ix, hM.ix, hL.la, hM.la, hd2, Int.toNat_natCast]
      | (with_reducible (first | apply cd_split | apply gd_split)) <;> (intro hc; (try simp only [hcn] at hc); (try simp only [hc]); (try simp only [hcl] at hc); try omega))
    · subst hQ
      exact ⟨by rw [decide_eq_false (fun e => hje (by rw [e]))], rfl⟩
    · obtain rfl : j = L.length := by omega
      exact absurd (by simp [List.getD, ← hlen]) hje
theorem getD_all {p : Ent → Bool} {L : List Ent} (h : L.all p = true) {i : Nat} (hi : i < L.length) : p (L.getD i default) = true := by
  rw [show L.getD i default = L[i] by simp [List.getD, hi]]
  exact (List.all_eq_true.1 h) _ (by simp)
theorem drop_ent {L : List Ent} {i : Nat} (hi : i < L.length) : L.drop i = L.getD i default :: L.drop (i + 1) := by
  rw [List.drop_eq_getElem_cons hi]; simp [List.getD, hi]
end Go.Proofs.Ytiingkpdodbldaa

set_option maxRecDepth 100000
set_option maxHeartbeats 8000000
set_option linter.all false
namespace Go.Proofs.Ytiingkpdodbldaa
open Go Go.Ev
theorem chkd_isE {r : Ent × Int × Int} {x : Ent} {z : Int} (h : chkd r = (x, z, 0)) : isE x = true := by
  unfold chkd at h
  split at h
  · rename_i hr
    exact absurd (Prod.mk.inj (Prod.mk.inj h).2).2 hr
  · unfold chkE at h
    split at h
    · rename_i hi; rw [← (Prod.mk.inj h).1]; exact hi
    · have := (Prod.mk.inj (Prod.mk.inj h).2).2; cases this
end Go.Proofs.Ytiingkpdodbldaa
