/- Texts of ours, without what this claim does not use: We Wg EntM SealM SealN BaM JrEnt JrCell Base NCell NText NEnt1 NEntR JrSeal NSeal NBa1 NEnt2 NBa2 NBa3 BaN BaO BaSt Wy NBaS. No condition. -/
import Derived.Test.YthncpgkpkdolfaaPkBatchLogs3
import Derived.Test.YthncpgkpkdolfaaProg
import Derived.KernelRfl
set_option linter.all false
namespace Go.Ev
open Go
/-- a block of the call's own, made of a text's bytes or of cells -/
def Own1 (h : H) (id : B) (xs : List V) : Prop := ∃ blk, h.heap.get id = some blk ∧ blk.cur = 0 ∧ blk.min = 0 ∧ blk.fr ≤ 1 ∧ B.val h.floor ≤ B.val id ∧ B.val id < B.val h.next ∧ ∀ i y, xs[i]? = some y → blk.cells.getN i = some y
theorem Own1.row {h : H} {id : B} {xs : List V} (o : Own1 h id xs) : Row h id 0 0 xs := by
  obtain ⟨blk, h1, h2, h3, h4, h5, h6, h7⟩ := o
  refine ⟨fun _ => ⟨blk, h1, by omega⟩, fun i y hy => ?_⟩
  unfold Ev.cell cellB
  rw [h1]
  show (if blk.min ≤ 0 then blk.cells.getN (0 + i) else none) = _
  rw [if_pos (by omega), Nat.zero_add]
  exact h7 i y hy
section
variable {P : Program} {h : H} {N : Nx} {id : B} {xs : List V} {j fin el : Nat} {x y : V}
/-- []byte(text), to be written into -/
theorem SB.own {c : List UInt8} (hf : B.val h.floor ≤ B.val h.next) (hl : c.length ≤ 1048576)
    (k : ∀ h', Stay nowhere h h' → B.val h'.next = B.val h.next + 1 → Own1 h' h.next (c.map bv) → N.go P (.l h.next 0 0 c.length c.length (capF c.length)) h') : SB P el (sv c) h N := by
  obtain ⟨h', a1, a2, a3, a4, a5, cs, a6, a7⟩ := s2b_new el hf hl
  have := fun k => a1 (.c (sv c)) F.zero (fun _ _ _ _ => false) k rfl
  refine hm_of (v := .l h.next 0 0 c.length c.length (capF c.length)) (h' := h') (fun k => ?_) (k h' a2 a3 ⟨_, a6, rfl, rfl, by show 1 ≤ 1; omega, by rw [a2.floor]; exact hf, by omega, a7⟩)
  have e := this k
  simp only [doS2B, oE_eq] at e
  exact e
end
/-- string([]byte{..}) in a region that draws -/
theorem AL.strU {P : Program} {t : F} {h : H} {K : F → H → Prop} {l : List CO} {el n m : Nat} {cs : List V} {bs : List UInt8} {len fin : Nat} {cap : Option Nat} (hc : cs = bs.map bv) (hne : bs ≠ []) (e1 : len = bs.length) (e2 : fin = bs.length) (hl : bs.length ≤ 1048576) (hf : B.val h.floor ≤ B.val h.next)
    (k : ∀ h' u, Stay nowhere h h' → DO P l (put n (sv bs) (put m u t)) h' K) : AL P el cs (fun id => .l id 0 0 len fin cap) (reFloor h) (.u m (.mk .none (.some (slOf n)) false (.mk (doB2S (.t (slOf m)))) :: l) t h K) := by
  subst hc; subst e1; subst e2
  have hn : (reFloor h).next = h.next := by cases h; rfl
  refine AL.own (by rw [List.length_map]; omega) (by cases h; exact Nat.le_refl _) fun h1' s1 n1 o1 => ?_
  have hL := (o1.unfloor (h := h) (by rw [hn]; exact hf)).lst cap
  rw [List.length_map] at hL
  rw [go_u, do_u, or_b2s, oV_t, get_put', if_pos rfl, bs_re, hL.bs hne]
  exact k _ _ s1.unfloor
/-- the i-th row of a matrix -/
noncomputable def rowOf (h : H) (v : V) (i : Nat) : V := (cell h (lid v) (lg v) (loff v + i)).getD .u
/-- a matrix that was there when the call began -/
structure MA (h0 : H) (v : V) (M : List (List Bool)) (g : H) : Prop where
  mx : Mx h0 v M
  st : Stay nowhere h0 g
section
variable {P : Program} {N : Nx} {h0 g h' : H} {v : V} {M : List (List Bool)} {i j : Nat}
theorem MA.grow (a : MA h0 v M g) (s : Stay nowhere g h') : MA h0 v M h' := ⟨a.mx, a.st.trans s⟩
theorem Mx.rowOf (a : Mx h0 v M) (hi : i < M.length) : Bl h0 (rowOf h0 v i) (M.getD i []) := by
  obtain ⟨rows, r1, r2, r3⟩ := a
  have hr : rows[i]? = some rows[i] := by simp
  have : Go.Ev.rowOf h0 v i = rows[i] := by
    unfold Go.Ev.rowOf
    rcases r1 with ⟨rfl, e⟩ | ⟨id, g, off, fin, cap, rfl, h2, h3, h4⟩
    · subst e; simp at r2; omega
    · have := h4.2 i _ hr
      show (cell h0 id g (off + i)).getD .u = _
      rw [this]; rfl
  rw [this]
  exact r3 i _ hr
theorem MA.row (a : MA h0 v M g) (hi : i < M.length) : Bl g (rowOf h0 v i) (M.getD i []) := (a.mx.rowOf hi).grow a.st
theorem MA.ln (a : MA h0 v M g) (g' : H) : H1 P gLen v g' N = N.go P (.i .i64 (M.length : Int)) g' := by
  obtain ⟨rows, r1, r2, r3⟩ := a.mx
  rw [r1.ln, r2]
theorem MA.ix (a : MA h0 v M g) (g' : H) (hi : i < M.length) : IX P 1 v i g' N = N.go P (.p (lid v) (lg v) (loff v + i) (lfin v)) g' := by
  obtain ⟨rows, r1, r2, r3⟩ := a.mx
  exact r1.ix (by omega)
theorem MA.ld (a : MA h0 v M g) (hi : i < M.length) : L1 P (lid v) (lg v) (loff v + i) (lfin v) g N = N.go P (rowOf h0 v i) g := by
  obtain ⟨rows, r1, r2, r3⟩ := a.mx
  have hr : rows[i]? = some rows[i] := by simp
  refine hv_of fun k => ?_
  have e : Go.Ev.rowOf h0 v i = rows[i] := by
    unfold Go.Ev.rowOf
    rcases r1 with ⟨rfl, e⟩ | ⟨id, g, off, fin, cap, rfl, h2, h3, h4⟩
    · subst e; simp at r2; omega
    · have := h4.2 i _ hr
      show (cell h0 id g (off + i)).getD .u = _
      rw [this]; rfl
  rw [load_lst (r1.grow a.st) hr, e]
end
theorem Row.ln {P : Program} {h : H} {N : Nx} {id : B} {g off fin size : Nat} {xs : List V} (r : Row h id g 0 xs) (hi : off + size ≤ xs.length) (h1 : 1 ≤ size) (hf : off + size ≤ fin) : LN P id g off fin size h N = N.go P (.a ((xs.drop off).take size)) h := hv_of fun k => by
  have hne : (xs.drop off).take size ≠ [] := by
    intro e
    have := congrArg List.length e
    rw [List.length_take, List.length_drop] at this
    simp at this; omega
  refine loadN_row (vs := (xs.drop off).take size) ⟨fun _ => r.1 (by intro e; subst e; simp at hi; omega), fun i y hy => ?_⟩ (by rw [List.length_take, List.length_drop]; omega) hne hf _
  rw [List.getElem?_take] at hy
  split at hy
  · rw [List.getElem?_drop] at hy
    have := r.2 (off + i) y hy
    rwa [Nat.zero_add] at this
  · cases hy
noncomputable def gPtr (ne : Bool) (x y : V) (k : V → Bool) : Bool := vPZ x (fun _ => vPZ y (fun _ => k (.b (!ne))) fun _ _ _ _ => k (.b ne)) (ptrK ne y k)
noncomputable def gSData (x : V) (k : V → Bool) : Bool := vL x (fun _ => k .p0) fun id g off len fin _ => ifK (Nat.ble 1 len) fun _ => k (.p id g off fin)
def PU (P : Program) (x : V) (h : H) (N : Nx) : Prop := HV P (fun k => vP x fun id g off fin => load1 h id g off fin fun _ => k (.p id g off fin)) h N
def UP (P : Program) (u size : Nat) (x : V) (h : H) (N : Nx) : Prop := HV P (fun k => vP x fun id g off fin => ifK (Nat.beq off 0) fun _ => ifK (Nat.ble size fin) fun _ => elK h id g u fun _ => k (.p id g off fin)) h N
section
variable {P : Program} {t : F} {h : H} {N : Nx} {x y : O} {ne : Bool} {id id' : B} {g off fin g' off' fin' : Nat} {u size : Nat}
theorem or_ptr : OR P (doPtr ne x y) t h N = H2 P (gPtr ne) (oV x t) (oV y t) h N := or_hv fun cf k => ev_ptr ..
theorem h2_ptr00 : H2 P (gPtr ne) .p0 .p0 h N = N.go P (.b (!ne)) h := hv_of fun k => rfl
theorem h2_ptr01 : H2 P (gPtr ne) .p0 (.p id g off fin) h N = N.go P (.b ne) h := hv_of fun k => rfl
theorem h2_ptr10 : H2 P (gPtr ne) (.p id g off fin) .p0 h N = N.go P (.b ne) h := hv_of fun k => by
  show ptrK ne .p0 k id g off fin = _
  exact ptrK_p0 ne k id g off fin
theorem h2_ptr11 : H2 P (gPtr ne) (.p id g off fin) (.p id g off fin') h N = N.go P (.b (!ne)) h := hv_of fun k => by
  show ptrK ne (.p id g off fin') k id g off fin = _
  rw [ptrK_same]; cases ne <;> rfl
theorem or_sdata : OR P (doSData x) t h N = H1 P gSData (oV x t) h N := or_hv fun cf k => ev_sdata ..
theorem or_p2u : OR P (doP2U x) t h N = PU P (oV x t) h N := or_hv fun cf k => ev_p2u ..
theorem or_u2p : OR P (doU2P u size x) t h N = UP P u size (oV x t) h N := or_hv fun cf k => ev_u2p ..
theorem OwnE.pu {xs : List V} {el : Nat} (o : OwnE h id el xs) (hi : off < xs.length) (hf : off < fin) : PU P (.p id 0 off fin) h N = N.go P (.p id 0 off fin) h := hv_of fun k => by
  show load1 h id 0 off fin (fun _ => k (.p id 0 off fin)) = _
  have := o.own.row.2 off (xs.getD off .u) (by simp [hi])
  rw [Nat.zero_add] at this
  rw [load1_cell this hf]
theorem OwnE.up {xs : List V} {el : Nat} (o : OwnE h id el xs) (hf : size ≤ fin) : UP P el size (.p id 0 0 fin) h N = N.go P (.p id 0 0 fin) h := hv_of fun k => by
  have e1 : Nat.ble size fin = true := by rw [Nat.ble_eq]; exact hf
  show ifK (Nat.beq 0 0) (fun _ => ifK (Nat.ble size fin) fun _ => elK h id 0 el fun _ => k (.p id 0 0 fin)) = _
  have e2 : Nat.beq 0 0 = true := rfl
  rw [e2, ifK_true, e1, ifK_true, elK_own o]
end
section
variable {P : Program} {h : H} {N : Nx} {id : B} {xs : List V} {j fin el : Nat} {x y : V}
theorem ST.ownE (o : OwnE h id el xs) (hc : cells x = [y]) (h1 : oneV y = true) (hj : j < fin) (hfit : j < 2 ^ 37) (k : ∀ h', OwnE h' id el (xs.set j y) → Stay (fun i => i = id) h h' → N.go P (.tu []) h') : ST P 1 (.p id 0 j fin) x h N := by
  obtain ⟨h', a1, a2, a3⟩ := store_ownE o hj hfit h1
  refine hm_of (v := .tu []) (h' := h') (fun k => ?_) (k h' a2 a3)
  show ifK (Nat.beq (cells x).length 1) (fun _ => store h id 0 j fin (cells x) fun h => k (.tu []) h) = _
  rw [hc]
  show store h id 0 j fin [y] (fun h => k (.tu []) h) = _
  rw [a1]
/-- append(v, text...) -/
theorem AS.buf {v : V} {a c : List UInt8} (hb : Buf h el 1 v (a.map bv)) (hf : B.val h.floor ≤ B.val h.next) (hl : a.length + c.length ≤ 1048576)
    (k : ∀ v' h', Buf h' el 1 v' ((a ++ c).map bv) → Stay (isOf v) h h' → (∀ i, isOf v' i → isOf v i ∨ B.val h.next ≤ B.val i) → Top h' v' → N.go P v' h') : AS P el v (sv c) h N := by
  obtain ⟨v', h', a1, a2, a3, a4, a5⟩ := append_top (vs := c.map bv) (n := c.length) hb hf (Nat.le_refl _) (by simp) (allOne_bv c) (by simpa using hl)
  refine hm_of (v := v') (h' := h') (fun k => ?_) (k v' h' (by rw [List.map_append]; exact a2) a3 a4 a5)
  show unpK c.length (pk c) [] (fun vs => append2 el 1 v c.length vs h k) = _
  rw [unpK_map _ _ _ _ rfl, List.append_nil, a1]
theorem buf_cells {v : V} (b : Buf h el 1 v xs) : cells v = [v] ∧ oneV v = true ∧ knownV v = true := by rcases b with ⟨rfl, _⟩ | ⟨_, _, _, _, rfl, _⟩ <;> exact ⟨rfl, rfl, rfl⟩
end
def US (P : Program) (e : Nat) (x y : V) (h : H) (N : Nx) : Prop := HM P (fun k => vI y fun kd n => ifK (kdEq kd .i64) fun _ => natK n fun n => vPZ x (fun _ => ifK (Nat.beq n 0) fun _ => k (.s 0 0) h) fun id g off fin => uStrK e n h k id g off fin) N
theorem US.of {P : Program} {e : Nat} {x y v : V} {h h' : H} {N : Nx} (hk : ∀ k : V → H → Bool, (vI y fun kd n => ifK (kdEq kd .i64) fun _ => natK n fun n => vPZ x (fun _ => ifK (Nat.beq n 0) fun _ => k (.s 0 0) h) fun id g off fin => uStrK e n h k id g off fin) = k v h') (k : N.go P v h') : US P e x y h N := hm_of hk k
theorem or_ustr {P : Program} {e : Nat} {x y : O} {t : F} {h : H} {N : Nx} : OR P (doUStr e x y) t h N = US P e (oV x t) (oV y t) h N := or_hm fun cf k => by simp only [doUStr, oE_eq]
end Go.Ev

set_option linter.all false
namespace Go.Ev
open Go
section
variable {h : H}
/-- all cells of a block at once -/
theorem ST.ownAll {P : Program} {N : Nx} {id : B} {xs vs : List V} {x : V} {size fin : Nat} (o : Own h id xs) (hc : cells x = vs) (hs : vs.length = size) (h1 : allOne vs = true) (hj : vs.length ≤ fin) (hfit : vs.length < 2 ^ 37)
    (k : ∀ h', Own h' id vs → Stay (fun i => i = id) h h' → N.go P (.tu []) h') : ST P size (.p id 0 0 fin) x h N := by
  obtain ⟨blk, a1, a2, a3, a4, a5, a6, a7⟩ := o
  obtain ⟨next, floor, heap⟩ := h
  obtain ⟨cur, min, sz, cs, bel, fr⟩ := blk
  simp only at a2 a3 a4 a7
  subst a2; subst a3; subst a4
  obtain ⟨tr, t1, t2, t3⟩ := setList_fine vs 0 cs (by omega)
  obtain ⟨hp, s1, s2, s3⟩ := setK_ok id (⟨0, 0, sz, tr, bel, 0⟩ : Blk) heap
  have e1 : B.geB floor id = true := by cases floor <;> first | rfl | (show Nat.ble _ _ = true; rw [Nat.ble_eq]; exact a5)
  have e2 : Nat.ble (Nat.add 0 vs.length) fin = true := by rw [Nat.ble_eq]; show 0 + vs.length ≤ fin; omega
  have e4 : frOk 0 0 = true := rfl
  have e5 : Nat.beq 0 0 = true := rfl
  have e6 : Nat.ble 0 0 = true := rfl
  have e7 : Nat.beq vs.length size = true := by rw [hs]; simp
  have a1' : heap.get id = some ⟨0, 0, sz, cs, bel, 0⟩ := a1
  refine hm_of (v := .tu []) (h' := ⟨next, floor, hp⟩) (fun q => ?_) (k _ ⟨_, s2, rfl, rfl, rfl, a5, a6, fun i z hz => by have := t2 i z hz; rwa [Nat.zero_add] at this⟩ ⟨rfl, Nat.le_refl _, fun i _ hi => s3 i hi⟩)
  show ifK (Nat.beq (cells x).length size) (fun _ => store ⟨next, floor, heap⟩ id 0 0 fin (cells x) fun h => q (.tu []) h) = _
  rw [hc, e7, ifK_true]
  simp only [store, hK_mk, a1', optK_some, blkK_mk, e5, e6, e1, e2, h1, e4, ifK_true]
  rw [t1, s1]
end
theorem ST.all {P : Program} {h : H} {N : Nx} {id : B} {xs vs : List V} {size fin : Nat} (o : Own h id xs) (hs : vs.length = size) (h1 : allOne vs = true) (hj : vs.length ≤ fin) (hfit : vs.length < 2 ^ 37)
    (k : ∀ h', Own h' id vs → Stay (fun i => i = id) h h' → N.go P (.tu []) h') : ST P size (.p id 0 0 fin) (.a vs) h N := ST.ownAll o rfl hs h1 hj hfit k
theorem re_fl (h : H) : B.val (reFloor h).floor ≤ B.val (reFloor h).next := by cases h; exact Nat.le_refl _
/-- a call in a region that draws -/
theorem CL.stayU {P : Program} {f : FuncId} {vs : List V} {h : H} {e : V} {m : Nat} {l : List CO} {t : F} {K : F → H → Prop} (a : FnOk P f vs (reFloor h) fun y h' => y = e ∧ Stay nowhere (reFloor h) h')
    (k : ∀ h', Stay nowhere h h' → DO P l (put m e t) h' K) : CL P f vs (reFloor h) (.u m l t h K) := ⟨_, a, fun v h' hq => by rw [hq.1, go_u]; exact k _ hq.2.unfloor⟩
/-- a row of structs of n cells each -/
def Ss {α : Type} (n : Nat) (c : α → List V) (h : H) (v : V) (L : List α) : Prop :=
  (v = .l0 ∧ L = []) ∨ ∃ id g off fin cap, v = .l id g off L.length fin cap ∧ off + L.length * n ≤ fin ∧ B.val id < B.val h.next ∧ Row h id g off (L.flatMap c)
section
variable {α : Type} [Inhabited α] {n : Nat} {c : α → List V}
theorem fm_len (hc : ∀ e, (c e).length = n) : ∀ (L : List α), (L.flatMap c).length = L.length * n
  | [] => by simp
  | a :: L => by rw [List.flatMap_cons, List.length_append, hc, fm_len hc L, List.length_cons, Nat.add_mul]; omega
theorem fm_at (hc : ∀ e, (c e).length = n) : ∀ {L : List α} {i : Nat}, i < L.length → ((L.flatMap c).drop (i * n)).take n = c (L.getD i default)
  | [], i, h => by simp at h
  | a :: L, 0, h => by
    rw [List.flatMap_cons, Nat.zero_mul, List.drop_zero, List.take_append_of_le_length (by rw [hc]; exact Nat.le_refl _), List.take_of_length_le (by rw [hc]; exact Nat.le_refl _)]; rfl
  | a :: L, i + 1, h => by
    have e : (i + 1) * n = (c a).length + i * n := by rw [hc, Nat.add_mul]; omega
    rw [List.flatMap_cons, e, ← List.drop_drop, List.drop_left, fm_at hc (by simpa using h)]
    simp [List.getD]
theorem fm_get (hc : ∀ e, (c e).length = n) {L : List α} {i d : Nat} (hi : i < L.length) (hd : d < n) : (L.flatMap c)[i * n + d]? = some ((c (L.getD i default)).getD d .u) := by
  have e : (((L.flatMap c).drop (i * n)).take n)[d]? = (c (L.getD i default))[d]? := by rw [fm_at hc hi]
  rw [List.getElem?_take, if_pos hd, List.getElem?_drop] at e
  rw [e]
  have : d < (c (L.getD i default)).length := by rw [hc]; exact hd
  have e3 : ∀ (x : List V), d < x.length → x[d]? = some (x.getD d .u) := fun x hx => by simp [List.getD, hx]
  exact e3 _ this
theorem fm_take (hc : ∀ e, (c e).length = n) : ∀ (L : List α) (k : Nat), (L.take k).flatMap c = (L.flatMap c).take (k * n)
  | [], k => by simp
  | a :: L, 0 => by simp
  | a :: L, k + 1 => by
    have e : (k + 1) * n = (c a).length + k * n := by rw [hc, Nat.add_mul]; omega
    have e2 : ((c a) ++ L.flatMap c).take ((c a).length + k * n) = c a ++ (L.flatMap c).take (k * n) := by
      rw [List.take_append, Nat.add_sub_cancel_left, List.take_of_length_le (Nat.le_add_right _ _)]
    rw [List.take_succ_cons, List.flatMap_cons, List.flatMap_cons, fm_take hc L k, e, e2]
theorem fm_drop (hc : ∀ e, (c e).length = n) : ∀ (L : List α) (k : Nat), (L.drop k).flatMap c = (L.flatMap c).drop (k * n)
  | [], k => by simp
  | a :: L, 0 => by simp
  | a :: L, k + 1 => by
    rw [List.drop_succ_cons, List.flatMap_cons, fm_drop hc L k, show (k + 1) * n = (c a).length + k * n by rw [hc, Nat.add_mul]; omega, ← List.drop_drop, List.drop_left]
variable {P : Program} {h h' g' : H} {N : Nx} {v : V} {L : List α} {i d : Nat}
theorem Ss.ln (a : Ss n c h v L) : H1 P gLen v g' N = N.go P (.i .i64 (L.length : Int)) g' := by
  rcases a with ⟨rfl, rfl⟩ | ⟨id, g, off, fin, cap, rfl, _⟩
  · exact gLen_l0
  · exact gLen_l
theorem Ss.ix (a : Ss n c h v L) (hi : i < L.length) : IX P n v i g' N = N.go P (.p (lid v) (lg v) (loff v + i * n) (lfin v)) g' := by
  rcases a with ⟨rfl, rfl⟩ | ⟨id, g, off, fin, cap, rfl, _⟩
  · simp at hi
  · exact ix_l hi
theorem Ss.ld (a : Ss n c h v L) (hc : ∀ e, (c e).length = n) (hi : i < L.length) (hd : d < n) : L1 P (lid v) (lg v) (loff v + i * n + d) (lfin v) h N = N.go P ((c (L.getD i default)).getD d .u) h := by
  rcases a with ⟨rfl, rfl⟩ | ⟨id, g, off, fin, cap, rfl, hf, hl, r⟩
  · simp at hi
  · refine hv_of fun k => ?_
    have := r.2 (i * n + d) _ (fm_get hc hi hd)
    rw [← Nat.add_assoc] at this
    have h1 : (i + 1) * n ≤ L.length * n := Nat.mul_le_mul_right n hi
    rw [Nat.add_mul] at h1
    exact load1_cell this (by show off + i * n + d < fin; omega) k
theorem Ss.ldA (a : Ss n c h v L) (hc : ∀ e, (c e).length = n) (hn : 1 ≤ n) (hi : i < L.length) : LN P (lid v) (lg v) (loff v + i * n) (lfin v) n h N = N.go P (.a (c (L.getD i default))) h := by
  rcases a with ⟨rfl, rfl⟩ | ⟨id, g, off, fin, cap, rfl, hf, hl, r⟩
  · simp at hi
  · refine hv_of fun k => ?_
    have h1 : (i + 1) * n ≤ L.length * n := Nat.mul_le_mul_right n hi
    rw [Nat.add_mul] at h1
    have hlen := hc (L.getD i default)
    refine loadN_row (vs := c (L.getD i default)) ⟨fun _ => r.1 ?_, fun j y hy => ?_⟩ hlen (by intro e; rw [e] at hlen; simp at hlen; omega) (by show off + i * n + n ≤ fin; omega) fun vs => k (.a vs)
    · intro e
      have h2 := fm_len hc L
      rw [e] at h2
      have h3 : L.length * n = 0 := h2.symm
      omega
    · have hj : j < n := by rw [← hlen]; exact (List.getElem?_eq_some_iff.1 hy).1
      have e := fm_get hc hi hj
      rw [List.getD, hy] at e
      have := r.2 (i * n + j) _ e
      rw [← Nat.add_assoc] at this
      exact this
theorem Ss.grow (a : Ss n c h v L) (s : Stay nowhere h h') : Ss n c h' v L := by
  rcases a with ⟨rfl, rfl⟩ | ⟨id, g, off, fin, cap, rfl, hf, hl, r⟩
  · exact .inl ⟨rfl, rfl⟩
  · exact .inr ⟨id, g, off, fin, cap, rfl, hf, Nat.lt_of_lt_of_le hl s.next, r.grow s hl⟩
theorem Ss.stay {p : B → Prop} (a : Ss n c h v L) (s : Stay p h h') (hp : ∀ id, isOf v id → ¬ p id) : Ss n c h' v L := by
  rcases a with ⟨rfl, rfl⟩ | ⟨id, g, off, fin, cap, rfl, hf, hl, r⟩
  · exact .inl ⟨rfl, rfl⟩
  · exact .inr ⟨id, g, off, fin, cap, rfl, hf, Nat.lt_of_lt_of_le hl s.next, r.stay s hl (hp id ⟨_, _, _, _, _, rfl⟩)⟩
theorem Ss.nil : Ss n c h .l0 ([] : List α) := .inl ⟨rfl, rfl⟩
/-- of a literal -/
theorem Ss.lit {id : B} {xs : List V} {cap : Option Nat} {len fin : Nat} (o : Own h id xs) (e : xs = L.flatMap c) (hc : ∀ e, (c e).length = n) (hl : len = L.length) (hf : L.length * n ≤ fin) : Ss n c h (.l id 0 0 len fin cap) L := by
  subst hl; subst e
  have r := o.row
  obtain ⟨blk, h1, h2, h3, h4, h5, h6, h7⟩ := o
  exact .inr ⟨id, 0, 0, fin, cap, rfl, by omega, h6, r⟩
/-- of a row that grew -/
theorem Ss.buf {el : Nat} {xs : List V} (b : Buf h el n v xs) (e : xs = L.flatMap c) (hc : ∀ e, (c e).length = n) (hn : 1 ≤ n) : Ss n c h v L := by
  subst e
  rcases b with ⟨rfl, he⟩ | ⟨id, g, m, blk, rfl, h1, h2, h3, h4, h5, h6, h7, h8, h9, h10⟩
  · refine .inl ⟨rfl, ?_⟩
    cases L with
    | nil => rfl
    | cons a L =>
      have := fm_len hc (a :: L)
      rw [he] at this
      have h3 : (L.length + 1) * n = 0 := this.symm
      rw [Nat.add_mul] at h3; omega
  · have hm : m = L.length := by
      rw [fm_len hc] at h2
      exact (Nat.eq_of_mul_eq_mul_right (by omega) h2).symm
    subst hm
    refine .inr ⟨id, g, 0, (L.flatMap c).length, none, rfl, by rw [fm_len hc]; omega, h4, fun _ => ⟨blk, h5, h6.1⟩, fun i y hy => ?_⟩
    unfold Ev.cell cellB
    rw [h5]
    show (if blk.min ≤ g then blk.cells.getN (0 + i) else none) = _
    rw [if_pos h6.1, Nat.zero_add]
    exact h10 i y hy
/-- a slice whose end is where it should be -/
def SwN (n : Nat) (v : V) : Prop := v = .l0 ∨ ∃ id g off m fin cap, v = .l id g off m fin cap ∧ match cap with
  | some c => m ≤ c ∧ (18446744073709551616 ≤ c → m = 0)
  | none => fin = off + m * n
theorem swn_capS {n off k L : Nat} : match capS k L with
  | some c => k ≤ c ∧ (18446744073709551616 ≤ c → k = 0)
  | none => off + k * n = off + k * n := by
  cases k with
  | zero => (cases L with | zero => exact rfl | succ L => exact ⟨Nat.zero_le _, fun _ => rfl⟩)
  | succ k => exact rfl
theorem row_hi {id : B} {g off k : Nat} (hc : ∀ e, (c e).length = n) (r : Row h id g off (L.flatMap c)) : Row h id g off ((L.take k).flatMap c) := by
  rw [fm_take hc]
  refine ⟨fun hne => r.1 fun e => hne (by rw [e]; simp), fun i y hy => r.2 i y ?_⟩
  rw [List.getElem?_take] at hy
  split at hy
  · exact hy
  · cases hy
theorem row_lo {id : B} {g off k : Nat} (hc : ∀ e, (c e).length = n) (r : Row h id g off (L.flatMap c)) : Row h id g (off + k * n) ((L.drop k).flatMap c) := by
  rw [fm_drop hc]
  refine ⟨fun hne => r.1 fun e => hne (by rw [e]; simp), fun i y hy => ?_⟩
  rw [List.getElem?_drop] at hy
  have := r.2 _ y hy
  rwa [← Nat.add_assoc] at this
theorem Ss.hi {kd : IntKind} {k : Nat} (a : Ss n c h v L) (hc : ∀ e, (c e).length = n) (w : SwN n v) (hk : k ≤ L.length) : ∃ u, Ss n c h u (L.take k) ∧ SwN n u ∧ ∀ (g : H) (N : Nx), H2 P (slHiV n) v (.i kd (k : Int)) g N = N.go P u g := by
  have e0 : Nat.ble 0 k = true := by rw [Nat.ble_eq]; omega
  have hkn : k * n ≤ L.length * n := Nat.mul_le_mul_right n hk
  have htk : (L.take k).length = k := by rw [List.length_take]; omega
  rcases a with ⟨rfl, rfl⟩ | ⟨id, g, off, fin, cap, rfl, h2, h3, r⟩
  · have : k = 0 := by simpa using hk
    subst this
    exact ⟨.l0, .inl ⟨rfl, by simp⟩, .inl rfl, fun g N => hv_of fun k => rfl⟩
  rcases w with e | ⟨id', g', off', n', fin', cap', e, hw⟩
  · cases e
  cases e
  cases cap with
  | none =>
    have hw : fin = off + L.length * n := hw
    refine ⟨.l id g off k (off + k * n) (capS k L.length), .inr ⟨id, g, off, off + k * n, capS k L.length, by rw [htk], by rw [htk]; exact Nat.le_refl _, h3, row_hi hc r⟩, .inr ⟨_, _, _, _, _, _, rfl, swn_capS⟩, fun g0 N => hv_of fun q => ?_⟩
    have e1 : Nat.ble k L.length = true := by rw [Nat.ble_eq]; exact hk
    have e2 : Nat.beq fin (Nat.add off (Nat.mul L.length n)) = true := by rw [hw]; exact Nat.beq_refl _
    unfold slHiV
    simp only [vL_l, vI_i, natK_cast, e0, ifK_true]
    show sliceN n id g off L.length fin 0 k q = _
    unfold sliceN
    rw [e1, ifK_true, e2, ifK_true, fN_eq, fN_eq, fN_eq]
    show q (.l id g (off + 0 * n) (k - 0) (off + k * n) (capS k L.length)) = _
    simp
  | some cc =>
    have hw2 : 18446744073709551616 ≤ cc → L.length = 0 := hw.2
    have hw : L.length ≤ cc := hw.1
    have e1 : Nat.ble k cc = true := by rw [Nat.ble_eq]; omega
    cases hfc : flagB cc with
    | true =>
      have hcc := flagB_t hfc
      have hx := hw2 hcc
      have hk0 : k = 0 := by omega
      subst hk0
      refine ⟨.l id g off 0 off (some cc), .inr ⟨id, g, off, off, some cc, by simp, by simp, h3, row_hi hc r⟩, .inr ⟨_, _, _, _, _, _, rfl, Nat.zero_le _, fun _ => rfl⟩, fun g0 N => hv_of fun q => ?_⟩
      unfold slHiV
      simp only [vL_l, vI_i, natK_cast, e0, ifK_true]
      show boolK (flagB cc) (fun _ => ifK (Nat.beq 0 0) fun _ => q (.l id g off 0 off (some cc))) _ = _
      rw [hfc]; rfl
    | false =>
    have hcM := flagB_f hfc
    cases cc with
    | zero =>
      have hx : L.length = 0 := by omega
      have hk0 : k = 0 := by omega
      subst hk0
      refine ⟨.l id g off 0 fin (some 0), .inr ⟨id, g, off, fin, some 0, by simp, by simp; omega, h3, row_hi hc r⟩, .inr ⟨_, _, _, _, _, _, rfl, Nat.le_refl _, fun _ => rfl⟩, fun g0 N => hv_of fun q => ?_⟩
      unfold slHiV
      simp only [vL_l, vI_i, natK_cast, e0, ifK_true]
      rfl
    | succ cc =>
      refine ⟨.l id g off k fin (some (cc + 1)), .inr ⟨id, g, off, fin, some (cc + 1), by rw [htk], by rw [htk]; omega, h3, row_hi hc r⟩, .inr ⟨_, _, _, _, _, _, rfl, by show k ≤ cc + 1; omega, fun h => absurd hcM (Nat.not_lt.2 h)⟩, fun g0 N => hv_of fun q => ?_⟩
      unfold slHiV
      simp only [vL_l, vI_i, natK_cast, e0, ifK_true]
      show boolK (flagB (cc + 1)) _ (fun _ => sliceC n id g off L.length fin (cc + 1) 0 k fun v => q v) = _
      rw [hfc, boolK_false, sliceC_mid hcM (by omega) (by omega)]
      simp
theorem Ss.mid {kd kd' : IntKind} {j k : Nat} (a : Ss n c h v L) (hc : ∀ e, (c e).length = n) (w : SwN n v) (hj : j ≤ k) (hk : k ≤ L.length) : ∃ u, Ss n c h u ((L.take k).drop j) ∧ SwN n u ∧ ∀ (g : H) (N : Nx), H3 P (slBoV n) v (.i kd (j : Int)) (.i kd' (k : Int)) g N = N.go P u g := by
  have e0 : Nat.ble j k = true := by rw [Nat.ble_eq]; omega
  have hkn : k * n ≤ L.length * n := Nat.mul_le_mul_right n hk
  have hjn : j * n + (k - j) * n = k * n := by rw [← Nat.add_mul]; congr 1; omega
  have htk : ((L.take k).drop j).length = k - j := by rw [List.length_drop, List.length_take]; omega
  rcases a with ⟨rfl, rfl⟩ | ⟨id, g, off, fin, cap, rfl, h2, h3, r⟩
  · obtain rfl : k = 0 := by simpa using hk
    obtain rfl : j = 0 := by omega
    exact ⟨.l0, .inl ⟨rfl, by simp⟩, .inl rfl, fun g N => hv_of fun k => rfl⟩
  rcases w with e | ⟨id', g', off', n', fin', cap', e, hw⟩
  · cases e
  cases e
  have hr := row_lo hc (row_hi (k := k) hc r) (k := j)
  cases cap with
  | none =>
    have hw : fin = off + L.length * n := hw
    refine ⟨.l id g (off + j * n) (k - j) (off + k * n) (capS k L.length), .inr ⟨id, g, off + j * n, off + k * n, capS k L.length, by rw [htk], by rw [htk]; omega, h3, hr⟩, .inr ⟨_, _, _, _, _, _, rfl, ?_⟩, fun g0 N => hv_of fun q => ?_⟩
    · cases hk0 : k with
      | zero => (cases L.length with | zero => (show _ = _; rw [hk0] at hjn; omega) | succ l => exact ⟨by omega, fun _ => by omega⟩)
      | succ m => (show _ = _; rw [← hk0]; omega)
    have e1 : Nat.ble k L.length = true := by rw [Nat.ble_eq]; exact hk
    have e2 : Nat.beq fin (Nat.add off (Nat.mul L.length n)) = true := by rw [hw]; exact Nat.beq_refl _
    unfold slBoV
    simp only [vL_l, vI_i, natK_cast, e0, ifK_true]
    show sliceN n id g off L.length fin j k q = _
    unfold sliceN
    rw [e1, ifK_true, e2, ifK_true, fN_eq, fN_eq, fN_eq]
    rfl
  | some cc =>
    have hw2 : 18446744073709551616 ≤ cc → L.length = 0 := hw.2
    have hw : L.length ≤ cc := hw.1
    cases hfc : flagB cc with
    | true =>
      have hcc := flagB_t hfc
      have hx := hw2 hcc
      obtain rfl : k = 0 := by omega
      obtain rfl : j = 0 := by omega
      refine ⟨.l id g off 0 off (some cc), .inr ⟨id, g, off, off, some cc, by simp, by simp, h3, ?_⟩, .inr ⟨_, _, _, _, _, _, rfl, Nat.zero_le _, fun _ => rfl⟩, fun g0 N => hv_of fun q => ?_⟩
      · simpa using hr
      unfold slBoV
      simp only [vL_l, vI_i, natK_cast, e0, ifK_true]
      show boolK (flagB cc) (fun _ => ifK (Nat.beq 0 0) fun _ => q (.l id g off 0 off (some cc))) _ = _
      rw [hfc]; rfl
    | false =>
    have hcM := flagB_f hfc
    by_cases hjc : j = cc
    · have hx : k = j := by omega
      refine ⟨.l id g off 0 fin (some 0), .inr ⟨id, g, off, fin, some 0, by rw [htk, hx]; simp, by rw [htk, hx]; simp; omega, h3, ?_⟩, .inr ⟨_, _, _, _, _, _, rfl, Nat.le_refl _, fun _ => rfl⟩, fun g0 N => hv_of fun q => ?_⟩
      · rw [List.drop_eq_nil_of_le (by rw [List.length_take]; omega)]
        exact ⟨fun hne => absurd rfl hne, fun i v hv => by simp at hv⟩
      · unfold slBoV
        simp only [vL_l, vI_i, natK_cast, e0, ifK_true]
        show boolK (flagB cc) _ (fun _ => sliceC n id g off L.length fin cc j k fun v => q v) = _
        rw [hfc, boolK_false]
        have eM : Nat.ble (Nat.succ cc) 18446744073709551616 = true := by rw [Nat.ble_eq]; exact hcM
        have e1 : Nat.ble k cc = true := by rw [Nat.ble_eq]; omega
        unfold sliceC
        rw [eM, ifK_true]
        have e2 : Nat.beq j cc = true := by rw [hjc]; exact Nat.beq_refl _
        rw [e1, ifK_true, e2]; rfl
    · refine ⟨.l id g (off + j * n) (k - j) fin (some (cc - j)), .inr ⟨id, g, off + j * n, fin, some (cc - j), by rw [htk], by rw [htk]; omega, h3, hr⟩, .inr ⟨_, _, _, _, _, _, rfl, by show k - j ≤ cc - j; omega, fun h => absurd hcM (by omega)⟩, fun g0 N => hv_of fun q => ?_⟩
      unfold slBoV
      simp only [vL_l, vI_i, natK_cast, e0, ifK_true]
      show boolK (flagB cc) _ (fun _ => sliceC n id g off L.length fin cc j k fun v => q v) = _
      rw [hfc, boolK_false, sliceC_mid hcM (by omega) (by omega)]
theorem Ss.lo {kd : IntKind} {k : Nat} (a : Ss n c h v L) (hc : ∀ e, (c e).length = n) (w : SwN n v) (hk : k ≤ L.length) : ∃ u, Ss n c h u (L.drop k) ∧ SwN n u ∧ ∀ (g : H) (N : Nx), H2 P (slLoV n) v (.i kd (k : Int)) g N = N.go P u g := by
  have e0 : Nat.ble k L.length = true := by rw [Nat.ble_eq]; omega
  have hkn : k * n + (L.length - k) * n = L.length * n := by rw [← Nat.add_mul]; congr 1; omega
  have htk : (L.drop k).length = L.length - k := List.length_drop
  rcases a with ⟨rfl, rfl⟩ | ⟨id, g, off, fin, cap, rfl, h2, h3, r⟩
  · have : k = 0 := by simpa using hk
    subst this
    exact ⟨.l0, .inl ⟨rfl, by simp⟩, .inl rfl, fun g N => hv_of fun k => rfl⟩
  rcases w with e | ⟨id', g', off', n', fin', cap', e, hw⟩
  · cases e
  cases e
  cases cap with
  | none =>
    have hw : fin = off + L.length * n := hw
    refine ⟨.l id g (off + k * n) (L.length - k) (off + L.length * n) none, .inr ⟨id, g, off + k * n, off + L.length * n, none, by rw [htk], by rw [htk]; omega, h3, row_lo hc r⟩, .inr ⟨_, _, _, _, _, _, rfl, by show off + L.length * n = off + k * n + (L.length - k) * n; omega⟩, fun g0 N => hv_of fun q => ?_⟩
    have e1 : Nat.ble L.length L.length = true := by rw [Nat.ble_eq]; exact Nat.le_refl _
    have e2 : Nat.beq fin (Nat.add off (Nat.mul L.length n)) = true := by rw [hw]; exact Nat.beq_refl _
    unfold slLoV
    simp only [vL_l, vI_i, natK_cast, e0, ifK_true]
    show sliceN n id g off L.length fin k L.length q = _
    unfold sliceN
    rw [e1, ifK_true, e2, ifK_true, fN_eq, fN_eq, fN_eq, capS_self]
    rfl
  | some cc =>
    have hw2 : 18446744073709551616 ≤ cc → L.length = 0 := hw.2
    have hw : L.length ≤ cc := hw.1
    have e1 : Nat.ble L.length cc = true := by rw [Nat.ble_eq]; omega
    cases hfc : flagB cc with
    | true =>
      have hcc := flagB_t hfc
      have hx := hw2 hcc
      have hk0 : k = 0 := by omega
      subst hk0
      refine ⟨.l id g off 0 off (some cc), .inr ⟨id, g, off, off, some cc, by rw [htk, hx], by rw [htk, hx]; simp, h3, ?_⟩, .inr ⟨_, _, _, _, _, _, rfl, Nat.zero_le _, fun _ => rfl⟩, fun g0 N => hv_of fun q => ?_⟩
      · rw [List.drop_eq_nil_of_le (by omega)]
        exact ⟨fun hne => absurd rfl hne, fun i v hv => by simp at hv⟩
      · unfold slLoV
        simp only [vL_l, vI_i, natK_cast, e0, ifK_true]
        show boolK (flagB cc) (fun _ => ifK (Nat.beq L.length 0) fun _ => q (.l id g off 0 off (some cc))) _ = _
        rw [hfc, hx]; rfl
    | false =>
    have hcM := flagB_f hfc
    have eM : Nat.ble (Nat.succ cc) 18446744073709551616 = true := by rw [Nat.ble_eq]; exact hcM
    by_cases hkc : k = cc
    · have hx : L.length = k := by omega
      refine ⟨.l id g off 0 fin (some 0), .inr ⟨id, g, off, fin, some 0, by rw [htk, hx]; simp, by rw [htk, hx]; simp; omega, h3, ?_⟩, .inr ⟨_, _, _, _, _, _, rfl, Nat.le_refl _, fun _ => rfl⟩, fun g0 N => hv_of fun q => ?_⟩
      · rw [List.drop_eq_nil_of_le (by omega)]
        exact ⟨fun hne => absurd rfl hne, fun i v hv => by simp at hv⟩
      · unfold slLoV
        simp only [vL_l, vI_i, natK_cast, e0, ifK_true]
        show boolK (flagB cc) _ (fun _ => sliceC n id g off L.length fin cc k L.length fun v => q v) = _
        rw [hfc, boolK_false]
        unfold sliceC
        rw [eM, ifK_true]
        have e2 : Nat.beq k cc = true := by rw [hkc]; exact Nat.beq_refl _
        rw [e1, ifK_true, e2]; rfl
    · refine ⟨.l id g (off + k * n) (L.length - k) fin (some (cc - k)), .inr ⟨id, g, off + k * n, fin, some (cc - k), by rw [htk], by rw [htk]; omega, h3, row_lo hc r⟩, .inr ⟨_, _, _, _, _, _, rfl, by show L.length - k ≤ cc - k; omega, fun h => absurd hcM (by omega)⟩, fun g0 N => hv_of fun q => ?_⟩
      unfold slLoV
      simp only [vL_l, vI_i, natK_cast, e0, ifK_true]
      show boolK (flagB cc) _ (fun _ => sliceC n id g off L.length fin cc k L.length fun v => q v) = _
      rw [hfc, boolK_false, sliceC_mid hcM (by omega) (by omega)]
/-- the cells that are appended -/
theorem new_ss (a : Ss n c h v L) (hc : ∀ e, (c e).length = n) (hn : 1 ≤ n) (k : Nat → List V → Bool) : newCells n v h k = k L.length (L.flatMap c) := by
  rcases a with ⟨rfl, rfl⟩ | ⟨id, g, off, fin, cap, rfl, hf, hl, r⟩
  · rfl
  · have hlen := fm_len hc L
    cases hm : L.length with
    | zero =>
      have : L = [] := List.eq_nil_of_length_eq_zero hm
      subst this; rfl
    | succ m =>
      rw [hm] at hlen hf
      show loadN h id g off fin (Nat.mul (m + 1) n) (fun vs => k (m + 1) vs) = _
      have hne : L.flatMap c ≠ [] := by
        intro e; rw [e] at hlen
        have h3 : (m + 1) * n = 0 := hlen.symm
        rw [Nat.add_mul] at h3; omega
      rw [show Nat.mul (m + 1) n = (L.flatMap c).length by rw [hlen]; rfl, loadN_row r rfl hne (by rw [hlen]; omega)]
end
end Go.Ev

set_option linter.all false
namespace Go.Ev
open Go
structure Ent where
  key : List UInt8
  seq : Int
  del : Bool
  val : List UInt8
deriving DecidableEq
def entZ : Ent := ⟨[], 0, false, []⟩
instance : Inhabited Ent := ⟨entZ⟩
def entC (e : Ent) : List V := [sv e.key, .i .i64 e.seq, .b e.del, sv e.val]
theorem entC_len (e : Ent) : (entC e).length = 4 := rfl
def Es (h : H) (v : V) (L : List Ent) : Prop := Ss 4 entC h v L
section
variable {P : Program} {h h' g' : H} {N : Nx} {v : V} {L : List Ent} {i d : Nat}
theorem Es.ln (a : Es h v L) : H1 P gLen v g' N = N.go P (.i .i64 (L.length : Int)) g' := Ss.ln a
theorem Es.ix (a : Es h v L) (hi : i < L.length) : IX P 4 v i g' N = N.go P (.p (lid v) (lg v) (loff v + i * 4) (lfin v)) g' := Ss.ix a hi
theorem Es.l0 (a : Es h v L) (hi : i < L.length) : L1 P (lid v) (lg v) (loff v + i * 4) (lfin v) h N = N.go P (sv (L.getD i default).key) h := Ss.ld (d := 0) a entC_len hi (by omega)
theorem Es.l1 (a : Es h v L) (hi : i < L.length) : L1 P (lid v) (lg v) (loff v + i * 4 + 1) (lfin v) h N = N.go P (.i .i64 (L.getD i default).seq) h := Ss.ld (d := 1) a entC_len hi (by omega)
theorem Es.l2 (a : Es h v L) (hi : i < L.length) : L1 P (lid v) (lg v) (loff v + i * 4 + 2) (lfin v) h N = N.go P (.b (L.getD i default).del) h := Ss.ld (d := 2) a entC_len hi (by omega)
theorem Es.l3 (a : Es h v L) (hi : i < L.length) : L1 P (lid v) (lg v) (loff v + i * 4 + 3) (lfin v) h N = N.go P (sv (L.getD i default).val) h := Ss.ld (d := 3) a entC_len hi (by omega)
theorem Es.grow (a : Es h v L) (s : Stay nowhere h h') : Es h' v L := Ss.grow a s
end
/-- of a write -/
def isW (key : List UInt8) (del : Bool) (val : List UInt8) : Bool := decide (1 ≤ key.length ∧ key.length ≤ 13 ∧ val.length ≤ 24 ∧ (del = true → val = []))
section
variable {k v : List UInt8} {d : Bool}
theorem isW_lo (h : (k.length : Int) < 1) : isW k d v = false := by unfold isW; rw [decide_eq_false_iff_not]; rintro ⟨a, _⟩; omega
theorem isW_hi (h : 13 < (k.length : Int)) : isW k d v = false := by unfold isW; rw [decide_eq_false_iff_not]; rintro ⟨_, a, _⟩; omega
theorem isW_big (h : 24 < (v.length : Int)) : isW k d v = false := by unfold isW; rw [decide_eq_false_iff_not]; rintro ⟨_, _, a, _⟩; omega
theorem isW_t (h1 : 1 ≤ (k.length : Int)) (h2 : (k.length : Int) ≤ 13) (hd : d = true) : isW k d v = decide (v = []) := by
  subst hd; unfold isW; congr 1
  refine propext ⟨fun h => h.2.2.2 rfl, fun e => ?_⟩
  subst e; exact ⟨by omega, by omega, by simp, fun _ => rfl⟩
theorem isW_f (h1 : 1 ≤ (k.length : Int)) (h2 : (k.length : Int) ≤ 13) (hd : d = false) : isW k d v = decide ((v.length : Int) ≤ 24) := by
  subst hd; unfold isW; congr 1
  exact propext ⟨fun h => by omega, fun e => ⟨by omega, by omega, by omega, fun h => by cases h⟩⟩
end
theorem bl_cons {x y : UInt8} {a b : List UInt8} : Op.bytesLess (x :: a) (y :: b) = true ↔ x.toNat < y.toNat ∨ (x = y ∧ Op.bytesLess a b = true) := by
  simp only [Op.bytesLess, Bool.or_eq_true, Bool.and_eq_true, decide_eq_true_eq, beq_iff_eq, UInt8.lt_iff_toNat_lt]
theorem bl_irr : ∀ l : List UInt8, Op.bytesLess l l = false
  | [] => rfl
  | c :: l => by
    cases h : Op.bytesLess (c :: l) (c :: l) with
    | false => rfl
    | true =>
      rcases bl_cons.1 h with h | ⟨_, h⟩
      · omega
      · rw [bl_irr l] at h; cases h
theorem bl_trans : ∀ {a b c : List UInt8}, Op.bytesLess a b = true → Op.bytesLess b c = true → Op.bytesLess a c = true
  | a, [], c, h, _ => by cases a <;> cases h
  | _, _ :: _, [], _, h => by cases h
  | [], _ :: _, _ :: _, _, _ => rfl
  | x :: a, y :: b, z :: c, h, g => by
    rcases bl_cons.1 h with h1 | ⟨h1, h2⟩ <;> rcases bl_cons.1 g with g1 | ⟨g1, g2⟩
    · exact bl_cons.2 (.inl (by omega))
    · exact bl_cons.2 (.inl (by rw [← g1]; exact h1))
    · exact bl_cons.2 (.inl (by rw [h1]; exact g1))
    · exact bl_cons.2 (.inr ⟨h1.trans g1, bl_trans h2 g2⟩)
theorem bl_asym {a b : List UInt8} (h : Op.bytesLess a b = true) : Op.bytesLess b a = false := by
  cases g : Op.bytesLess b a with
  | false => rfl
  | true => have := bl_trans h g; rw [bl_irr] at this; cases this
theorem bl_total : ∀ {a b : List UInt8}, a ≠ b → Op.bytesLess a b = true ∨ Op.bytesLess b a = true
  | [], [], h => absurd rfl h
  | [], _ :: _, _ => .inl rfl
  | _ :: _, [], _ => .inr rfl
  | x :: a, y :: b, h => by
    by_cases e : x = y
    · subst e
      rcases bl_total (a := a) (b := b) (fun e => h (by rw [e])) with g | g
      · exact .inl (bl_cons.2 (.inr ⟨rfl, g⟩))
      · exact .inr (bl_cons.2 (.inr ⟨rfl, g⟩))
    · have : x.toNat ≠ y.toNat := fun g => e (UInt8.toNat_inj.1 g)
      rcases Nat.lt_or_ge x.toNat y.toNat with g | g
      · exact .inl (bl_cons.2 (.inl g))
      · exact .inr (bl_cons.2 (.inl (by omega)))
section
variable {s k v : List UInt8} {n m j : Nat} {q e : Int}
end
end Go.Ev

set_option linter.all false
namespace Go.Ev
open Go
/-- the sum's two parts, one byte further -/
def adlStep (p : Nat × Nat) (c : UInt8) : Nat × Nat := ((p.1 + c.toNat) % 65521, (p.2 + (p.1 + c.toNat) % 65521) % 65521)
def adlF (p : Nat × Nat) (l : List UInt8) : Nat × Nat := l.foldl adlStep p
def adl (l : List UInt8) : Nat × Nat := adlF (1, 0) l
def sumB (l : List UInt8) : Nat := (adl l).2 * 65536 + (adl l).1
theorem adlF_append (p : Nat × Nat) (a b : List UInt8) : adlF p (a ++ b) = adlF (adlF p a) b := List.foldl_append
theorem adlF_lt {p : Nat × Nat} (h1 : p.1 < 65521) (h2 : p.2 < 65521) : ∀ l, (adlF p l).1 < 65521 ∧ (adlF p l).2 < 65521 := by
  intro l
  induction l generalizing p with
  | nil => exact ⟨h1, h2⟩
  | cons c l ih => exact ih (p := adlStep p c) (Nat.mod_lt _ (by omega)) (Nat.mod_lt _ (by omega))
theorem adl_lt (l : List UInt8) : (adl l).1 < 65521 ∧ (adl l).2 < 65521 := adlF_lt (by decide) (by decide) l
theorem sumB_lt (l : List UInt8) : sumB l < 4294967296 := by
  have := adl_lt l
  unfold sumB; omega
theorem sumB_snoc (l : List UInt8) (c : UInt8) : adl (l ++ [c]) = adlStep (adl l) c := by
  unfold adl; rw [adlF_append]; rfl
/-- four bytes of a number, the highest first -/
def fourB (n : Nat) : List UInt8 := [UInt8.ofNat (n / 16777216), UInt8.ofNat (n / 65536), UInt8.ofNat (n / 256), UInt8.ofNat n]
theorem fourB_len (n : Nat) : (fourB n).length = 4 := rfl
def sealB (l : List UInt8) : List UInt8 := numB l.length ++ fourB (sumB l) ++ l
theorem sealB_len (l : List UInt8) : (sealB l).length = (numB l.length).length + 4 + l.length := by
  unfold sealB; rw [List.length_append, List.length_append, fourB_len]
/-- what is sealed at the front -/
def openB (l : List UInt8) : List UInt8 × Int × Int :=
  if (takeN l).2.2 = 12 then ([], 0, 12) else if (takeN l).2.2 ≠ 0 then ([], 0, 13) else
  if ((l.length : Int) - (takeN l).2.1 < 4 ∨ (l.length : Int) - (takeN l).2.1 - 4 < (takeN l).1) then ([], 0, 12) else
  if fourB (sumB ((l.drop ((takeN l).2.1.toNat + 4)).take (takeN l).1.toNat)) ≠ (l.drop (takeN l).2.1.toNat).take 4 then ([], 0, 13) else
  ((l.drop ((takeN l).2.1.toNat + 4)).take (takeN l).1.toNat, (takeN l).2.1 + 4 + (takeN l).1, 0)
/-- with a number at the front -/
theorem openB_num {l : List UInt8} {n k : Nat} (h : takeN l = ((n : Int), (k : Int), 0)) : openB l = if ((l.length : Int) - k < 4 ∨ (l.length : Int) - k - 4 < n) then ([], 0, 12) else
    if fourB (sumB ((l.drop (k + 4)).take n)) ≠ (l.drop k).take 4 then ([], 0, 13) else ((l.drop (k + 4)).take n, (k : Int) + 4 + n, 0) := by
  unfold openB
  rw [h]
  simp only [Int.toNat_natCast]
  rw [if_neg (by decide), if_neg (by simp)]
theorem openB_seal {l more : List UInt8} (h : l.length ≤ 9223372036854775807) : openB (sealB l ++ more) = (l, ((sealB l).length : Int), 0) := by
  have e : sealB l ++ more = numB l.length ++ (fourB (sumB l) ++ l ++ more) := by unfold sealB; simp
  have ht : takeN (sealB l ++ more) = ((l.length : Int), ((numB l.length).length : Int), 0) := by rw [e]; exact takeN_numB h _
  rw [openB_num ht]
  have hlen : (sealB l ++ more).length = (numB l.length).length + 4 + l.length + more.length := by rw [List.length_append, sealB_len]
  have d1 : (sealB l ++ more).drop (numB l.length).length = fourB (sumB l) ++ l ++ more := by rw [e, List.drop_left]
  have d2 : (sealB l ++ more).drop ((numB l.length).length + 4) = l ++ more := by
    rw [← List.drop_drop, d1]
    show (fourB (sumB l) ++ l ++ more).drop (fourB (sumB l)).length = _
    rw [List.append_assoc, List.drop_left]
  have d3 : (fourB (sumB l) ++ l ++ more).take 4 = fourB (sumB l) := by
    show (fourB (sumB l) ++ l ++ more).take (fourB (sumB l)).length = _
    rw [List.append_assoc, List.take_left]
  rw [if_neg (by omega), d1, d2, d3, List.take_left, if_neg (by simp), sealB_len]
  congr 1
theorem openB_cut {l : List UInt8} {c : Nat} (h : l.length ≤ 9223372036854775807) (hc : c < (sealB l).length) : openB ((sealB l).take c) = ([], 0, 12) := by
  rcases Nat.lt_or_ge c (numB l.length).length with h1 | h1
  · have e : (sealB l).take c = (numB l.length).take c := by unfold sealB; rw [List.append_assoc, List.take_append_of_le_length (by omega)]
    unfold openB
    rw [e, takeN_cut h h1]
    rfl
  · have e : (sealB l).take c = numB l.length ++ (fourB (sumB l) ++ l).take (c - (numB l.length).length) := by
      unfold sealB
      rw [List.append_assoc, List.take_append, List.take_of_length_le (by omega)]
    have ht : takeN ((sealB l).take c) = ((l.length : Int), ((numB l.length).length : Int), 0) := by rw [e]; exact takeN_numB h _
    rw [openB_num ht]
    have hl : ((sealB l).take c).length = c := by rw [List.length_take]; omega
    rw [sealB_len] at hc
    rw [hl, if_pos (by omega)]
end Go.Ev

set_option linter.all false
namespace Go.Ev
open Go
theorem adl_take {l : List UInt8} {i : Nat} (h : i < l.length) : adl (l.take (i + 1)) = adlStep (adl (l.take i)) (l.getD i 0) := by
  rw [← sumB_snoc]
  congr 1
  rw [List.take_succ_eq_append_getElem h]
  simp [List.getD, h]
theorem openB_range (l : List UInt8) : openB l = ([], 0, 12) ∨ openB l = ([], 0, 13) ∨ ∃ (x : List UInt8) (n : Nat), openB l = (x, (n : Int), 0) ∧ 5 ≤ n ∧ n ≤ l.length ∧ x.length + 5 ≤ n := by
  rcases takeN_range l with (hc | hc) | ⟨n, k, hc, h1, h2, h3, h4⟩
  · right; left; unfold openB; rw [hc]; rfl
  · left; unfold openB; rw [hc]; rfl
  · rw [openB_num hc]
    by_cases c1 : ((l.length : Int) - k < 4 ∨ (l.length : Int) - k - 4 < n)
    · rw [if_pos c1]; exact .inl rfl
    · rw [if_neg c1]
      by_cases c2 : fourB (sumB ((l.drop (k + 4)).take n)) ≠ (l.drop k).take 4
      · rw [if_pos c2]; exact .inr (.inl rfl)
      · rw [if_neg c2]
        refine .inr (.inr ⟨_, k + 4 + n, rfl, by omega, by omega, ?_⟩)
        rw [List.length_take]; omega
theorem takeN_inv {l : List UInt8} {n k : Nat} (h : takeN l = ((n : Int), (k : Int), 0)) : l.take k = numB n := by
  cases l with
  | nil => rw [takeN_nil] at h; cases h
  | cons w r =>
    rcases Nat.lt_or_ge 8 w.toNat with h1 | h1
    · rw [takeN_big h1] at h; cases h
    rcases Nat.lt_or_ge r.length w.toNat with h2 | h2
    · rw [takeN_short h1 h2] at h; cases h
    by_cases hb : badD (r.take w.toNat)
    · rw [takeN_bad h1 h2 hb] at h; cases h
    · rw [takeN_ok h1 h2 hb] at h
      injection h with e1 e2
      injection e2 with e2 _
      have e1 : pk (r.take w.toNat) = n := by omega
      have e2 : w.toNat + 1 = k := by omega
      subst e1; subst e2
      unfold numB
      rw [digs_pk _ (fun hh => hb (.inl hh)), List.length_take, Nat.min_eq_left h2]
      simp
/-- what is opened was sealed -/
theorem openB_inv {l x : List UInt8} {n : Nat} (h : openB l = (x, (n : Int), 0)) : ∃ more, l = sealB x ++ more := by
  rcases takeN_range l with (hc | hc) | ⟨m, k, hc, h1, h2, h3, h4⟩
  · unfold openB at h; rw [hc] at h; cases h
  · unfold openB at h; rw [hc] at h; cases h
  · rw [openB_num hc] at h
    by_cases c1 : ((l.length : Int) - k < 4 ∨ (l.length : Int) - k - 4 < m)
    · rw [if_pos c1] at h; cases h
    · rw [if_neg c1] at h
      by_cases c2 : fourB (sumB ((l.drop (k + 4)).take m)) ≠ (l.drop k).take 4
      · rw [if_pos c2] at h; cases h
      · rw [if_neg c2] at h
        have c2 := Decidable.not_not.1 c2
        injection h with e1 e2
        refine ⟨(l.drop (k + 4)).drop m, ?_⟩
        have hx : x.length = m := by rw [← e1, List.length_take, List.length_drop]; omega
        have a1 : l = l.take k ++ ((l.drop k).take 4 ++ ((l.drop (k + 4)).take m ++ (l.drop (k + 4)).drop m)) := by
          rw [List.take_append_drop, ← List.drop_drop, List.take_append_drop, List.take_append_drop]
        rw [takeN_inv hc, ← c2, e1] at a1
        unfold sealB
        rw [hx]
        simpa using a1
end Go.Ev

set_option linter.all false
namespace Go.Ev
open Go
structure Wri where
  key : List UInt8
  del : Bool
  val : List UInt8
deriving DecidableEq
def wriZ : Wri := ⟨[], false, []⟩
instance : Inhabited Wri := ⟨wriZ⟩
def wriC (w : Wri) : List V := [sv w.key, .b w.del, sv w.val]
theorem wriC_len (w : Wri) : (wriC w).length = 3 := rfl
def Ws (h : H) (v : V) (L : List Wri) : Prop := Ss 3 wriC h v L
section
variable {P : Program} {h h' g' : H} {N : Nx} {v : V} {L : List Wri} {i d : Nat}
theorem Ws.ln (a : Ws h v L) : H1 P gLen v g' N = N.go P (.i .i64 (L.length : Int)) g' := Ss.ln a
theorem Ws.ix (a : Ws h v L) (hi : i < L.length) : IX P 3 v i g' N = N.go P (.p (lid v) (lg v) (loff v + i * 3) (lfin v)) g' := Ss.ix a hi
theorem Ws.l0 (a : Ws h v L) (hi : i < L.length) : L1 P (lid v) (lg v) (loff v + i * 3) (lfin v) h N = N.go P (sv (L.getD i default).key) h := Ss.ld (d := 0) a wriC_len hi (by omega)
theorem Ws.l1 (a : Ws h v L) (hi : i < L.length) : L1 P (lid v) (lg v) (loff v + i * 3 + 1) (lfin v) h N = N.go P (.b (L.getD i default).del) h := Ss.ld (d := 1) a wriC_len hi (by omega)
theorem Ws.l2 (a : Ws h v L) (hi : i < L.length) : L1 P (lid v) (lg v) (loff v + i * 3 + 2) (lfin v) h N = N.go P (sv (L.getD i default).val) h := Ss.ld (d := 2) a wriC_len hi (by omega)
theorem Ws.la (a : Ws h v L) (hi : i < L.length) : LN P (lid v) (lg v) (loff v + i * 3) (lfin v) 3 h N = N.go P (.a [sv (L.getD i default).key, .b (L.getD i default).del, sv (L.getD i default).val]) h := Ss.ldA a wriC_len (by omega) hi
theorem Ws.grow (a : Ws h v L) (s : Stay nowhere h h') : Ws h' v L := Ss.grow a s
end
theorem take_wri {L : List Wri} {i : Nat} (hi : i < L.length) : L.take (i + 1) = L.take i ++ [L.getD i default] := by
  rw [List.take_succ]; simp [List.getD, hi]
def isR (w : Wri) : Bool := isW w.key w.del w.val
/-- the i-th one is a write, its key above the one ahead -/
def upA (L : List Wri) (j : Nat) : Bool := isR (L.getD j default) && (decide (j = 0) || Op.bytesLess (L.getD (j - 1) default).key (L.getD j default).key)
def upU (L : List Wri) (i : Nat) : Bool := (List.range i).all (upA L)
def isB (L : List Wri) : Bool := upU L L.length && decide (L.length ≤ 8)
theorem upU_succ (L : List Wri) (i : Nat) : upU L (i + 1) = (upU L i && upA L i) := by unfold upU; rw [List.range_succ, List.all_append]; simp
theorem upU_at {L : List Wri} {i : Nat} (h : upU L i = true) {j : Nat} (hj : j < i) : upA L j = true := (List.all_eq_true.1 h) j (List.mem_range.2 hj)
theorem upU_no {L : List Wri} {i : Nat} (hi : i < L.length) (h : upA L i = false) : isB L = false := by
  unfold isB upU
  rw [show ((List.range L.length).all (upA L)) = false from List.all_eq_false.2 ⟨i, List.mem_range.2 hi, by rw [h]; simp⟩]; rfl
theorem isB_len {L : List Wri} (h : isB L = true) : L.length ≤ 8 := by
  unfold isB at h; rw [Bool.and_eq_true] at h; exact of_decide_eq_true h.2
theorem isB_up {L : List Wri} (h : isB L = true) {j : Nat} (hj : j < L.length) : upA L j = true := by
  unfold isB at h; rw [Bool.and_eq_true] at h; exact upU_at h.1 hj
theorem upA_is {L : List Wri} {j : Nat} (h : upA L j = true) : isR (L.getD j default) = true := by unfold upA at h; rw [Bool.and_eq_true] at h; exact h.1
theorem isR_len {w : Wri} (h : isR w = true) : 1 ≤ w.key.length ∧ w.key.length ≤ 13 ∧ w.val.length ≤ 24 ∧ (w.del = true → w.val = []) := by
  unfold isR isW at h; exact of_decide_eq_true h
def leB (a b : List UInt8) : Bool := Op.bytesLess a b || decide (a = b)
def wiS (w : Wri) (p : List Wri × Bool) (x : Wri) : List Wri × Bool :=
  let q := if !p.2 && leB w.key x.key then (p.1 ++ [w], true) else p
  if x.key = w.key then q else (q.1 ++ [x], q.2)
def wiU (w : Wri) (L : List Wri) : List Wri × Bool := L.foldl (wiS w) ([], false)
def withB (L : List Wri) (w : Wri) : List Wri := if (wiU w L).2 then (wiU w L).1 else (wiU w L).1 ++ [w]
def neatB (L : List Wri) : List Wri := L.foldl withB []
theorem neatB_take {L : List Wri} {i : Nat} (hi : i < L.length) : neatB (L.take (i + 1)) = withB (neatB (L.take i)) (L.getD i default) := by
  rw [take_wri hi]; unfold neatB; rw [List.foldl_append]; rfl
def oneB (w : Wri) : List UInt8 := textB w.key ++ (if w.del then [1] else 0 :: textB w.val)
def rowsB (L : List Wri) : List UInt8 := numB L.length ++ L.flatMap oneB
def batB (seq : Int) (L : List Wri) : List UInt8 := sealB (numB seq.toNat ++ rowsB L)
def okB12 (seq : Int) (L : List Wri) : Bool := isB L && decide (1 ≤ seq ∧ seq ≤ 1000000)
def bytB (seq : Int) (L : List Wri) : List UInt8 × Int := if okB12 seq L then (batB seq L, 0) else ([], 10)
def entB (seq : Int) (L : List Wri) : List Ent := if isB L then L.map (fun w => ⟨w.key, seq, w.del, w.val⟩) else []
/-- so many writes at the front -/
def takeWs : Nat → List UInt8 → Option (List Wri × List UInt8)
  | 0, s => some ([], s)
  | n + 1, s =>
    if (takeT s).2.2 ≠ 0 ∨ (takeT s).2.1 = (s.length : Int) then none
    else if s.getD (takeT s).2.1.toNat 0 = 1 then (takeWs n (s.drop ((takeT s).2.1.toNat + 1))).map fun r => (⟨(takeT s).1, true, []⟩ :: r.1, r.2)
    else if (takeT (s.drop ((takeT s).2.1.toNat + 1))).2.2 ≠ 0 then none
    else (takeWs n ((s.drop ((takeT s).2.1.toNat + 1)).drop (takeT (s.drop ((takeT s).2.1.toNat + 1))).2.1.toNat)).map fun r => (⟨(takeT s).1, false, (takeT (s.drop ((takeT s).2.1.toNat + 1))).1⟩ :: r.1, r.2)
def takeR (s : List UInt8) : Option (List Wri) :=
  if (takeN s).2.2 ≠ 0 ∨ 8 < (takeN s).1 then none else (takeWs (takeN s).1.toNat (s.drop (takeN s).2.1.toNat)).map (·.1)
def readR (s : List UInt8) : Int × List Wri × Int × Int :=
  let o := openB s
  if o.2.2 ≠ 0 then (0, [], 0, o.2.2) else
  let q := takeN o.1
  if q.2.2 ≠ 0 then (0, [], 0, 10) else
  match takeR (o.1.drop q.2.1.toNat) with
  | none => (0, [], 0, 10)
  | some l => if (bytB q.1 l).2 = 0 ∧ (bytB q.1 l).1 = s.take o.2.1.toNat then (q.1, l, o.2.1, 0) else (0, [], 0, 10)
/-- all at the front, one behind the other: how many steps at most, whether it is the first, the last number -/
def logF : Nat → Bool → Int → List UInt8 → List Ent × Int × Nat
  | 0, _, z, _ => ([], z, 0)
  | k + 1, f, z, s =>
    if s = [] ∨ (readR s).2.2.2 ≠ 0 ∨ (f = false ∧ (readR s).1 ≠ z + 1) then ([], z, 0)
    else
      let r := logF k false (readR s).1 (s.drop (readR s).2.2.1.toNat)
      (entB (readR s).1 (readR s).2.1 ++ r.1, r.2.1, (readR s).2.2.1.toNat + r.2.2)
def logB (s : List UInt8) : List Ent × Int × Nat := logF s.length true 0 s
def okW (w : Wri) : Bool := decide (w.key.length ≤ 20) && decide (w.val.length ≤ 40)
def fewW (L : List Wri) : Bool := L.all okW && decide (L.length ≤ 20)
end Go.Ev

set_option maxRecDepth 1000000
set_option linter.all false
namespace Go.Proofs.Ythncpgkpkdolfaa
open Go Go.Ev
noncomputable abbrev s36_0 : CC := (CC.seq (CC.region [(wB 2 (doMove (O.c (V.b Bool.false))))]) CC.ret)
noncomputable abbrev s36_1 : CC := (CC.cond (tm 12) s36_0 CC.skip)
noncomputable abbrev s36_2 : CC := (CC.seq (CC.region [(wB 3 (doFieldAddr 0 (tm 1))), (wB 4 (doLoad (tm 3))), (wB 5 (doLenS (tm 4))), (wB 6 (bin2 fLss (tm 5) (oN 1))), (wB 7 (doMove (tm 6))), (wG 7 false 8 (doFieldAddr 0 (tm 1))), (wG 7 false 9 (doLoad (tm 8))), (wG 7 false 10 (doLenS (tm 9))), (wG 7 false 11 (bin2 fGtr (tm 10) (oN 13))), (wB 12 (doPick (tm 7) (O.c (V.b Bool.true)) (tm 11)))]) s36_1)
noncomputable abbrev s36_3 : CC := (CC.seq (CC.region [(wB 15 (doFieldAddr 2 (tm 1))), (wB 16 (doLoad (tm 15))), (wB 17 (doSCmp eqS (tm 16) (O.c (V.s 0 0)))), (wB 2 (doMove (tm 17)))]) CC.ret)
noncomputable abbrev s36_4 : CC := (CC.cond (tm 14) s36_3 CC.skip)
noncomputable abbrev s36_5 : CC := (CC.seq (CC.region [(wB 13 (doFieldAddr 1 (tm 1))), (wB 14 (doLoad (tm 13)))]) s36_4)
noncomputable abbrev s36_6 : CC := (CC.seq (CC.region [(wB 18 (doFieldAddr 2 (tm 1))), (wB 19 (doLoad (tm 18))), (wB 20 (doLenS (tm 19))), (wB 21 (bin2 fLeq (tm 20) (oN 24))), (wB 2 (doMove (tm 21)))]) CC.ret)
noncomputable abbrev s36_7 : CC := (CC.seq s36_5 s36_6)
noncomputable abbrev s36_8 : CC := (CC.seq s36_2 s36_7)
noncomputable abbrev b36 : CC := (CC.seq (CC.region [(wB 1 (doBox 49 (tm 0))), (wB 2 (doMove (O.c (V.b Bool.false))))]) s36_8)
theorem c36 : compFn Try.prog 36 = ⟨22, b36, [(Rs.tmp (slOf 2))]⟩ := by kernel_rfl
noncomputable abbrev s37_0 : CC := (CC.seq (CC.region [(wB 3 (doFieldAddr 0 (tm 1))), (wB 4 (doLoad (tm 3))), (wB 5 (doLenS (tm 4))), (wB 6 (bin2 fGeq (tm 5) (oN 1))), (wB 7 (doMove (tm 6))), (wG 7 true 8 (doFieldAddr 0 (tm 1))), (wG 7 true 9 (doLoad (tm 8))), (wG 7 true 10 (doLenS (tm 9))), (wG 7 true 11 (bin2 fLeq (tm 10) (oN 13))), (wB 12 (doPick (tm 7) (tm 11) (O.c (V.b Bool.false)))), (wB 13 (doMove (tm 12))), (wG 13 true 14 (doFieldAddr 2 (tm 1))), (wG 13 true 15 (doLoad (tm 14))), (wG 13 true 16 (doLenS (tm 15))), (wG 13 true 17 (bin2 fLeq (tm 16) (oN 24))), (wB 18 (doPick (tm 13) (tm 17) (O.c (V.b Bool.false)))), (wB 19 (doMove (tm 18))), (wG 19 true 20 (doFieldAddr 1 (tm 1))), (wG 19 true 21 (doLoad (tm 20))), (wG 19 true 22 (doNot (tm 21))), (wG 19 true 23 (doMove (tm 22))), (wG 23 false 24 (doFieldAddr 2 (tm 1))), (wG 23 false 25 (doLoad (tm 24))), (wG 23 false 26 (doSCmp eqS (tm 25) (O.c (V.s 0 0)))), (wG 19 true 27 (doPick (tm 23) (O.c (V.b Bool.true)) (tm 26))), (wB 28 (doPick (tm 19) (tm 27) (O.c (V.b Bool.false)))), (wB 2 (doMove (tm 28)))]) CC.ret)
noncomputable abbrev b37 : CC := (CC.seq (CC.region [(wB 1 (doBox 49 (tm 0))), (wB 2 (doMove (O.c (V.b Bool.false))))]) s37_0)
theorem c37 : compFn Try.prog 37 = ⟨29, b37, [(Rs.tmp (slOf 2))]⟩ := by kernel_rfl
end Go.Proofs.Ythncpgkpkdolfaa

set_option maxRecDepth 1000000
set_option linter.all false
namespace Go.Proofs.Ythncpgkpkdolfaa
open Go Go.Ev
noncomputable abbrev s24_0 : CC := (CC.cond (tm 7) CC.skip (CC.exit 0))
noncomputable abbrev s24_1 : CC := (CC.seq (CC.region [(wB 6 (doMove (tm 0))), (wB 7 (bin2 fGtr (tm 6) (oN 0)))]) s24_0)
noncomputable abbrev s24_2 : CC := (CC.region [(wB 12 (doMove (tm 4))), (wB 13 (doMove (tm 0))), (wB 14 (doConv IntKind.u8 (tm 13))), (wB 15 (doIndexAddrArr 9 1 (tm 3) (tm 12))), (CO.mk G.none D.none Bool.true (CR.mk (doStore 1 (tm 15) (tm 14))))])
noncomputable abbrev s24_3 : CC := (CC.seq (CC.region [(wB 10 (doMove (tm 4))), (wB 11 (bin2 fSub (tm 10) (oN 1))), (wB 4 (doMove (tm 11)))]) s24_2)
noncomputable abbrev s24_4 : CC := (CC.block 1 s24_3)
noncomputable abbrev s24_5 : CC := (CC.region [(wB 8 (doMove (tm 0))), (wB 9 (doShift shrF (tm 8) (O.c (V.i IntKind.u64 (Int.ofNat 8))))), (wB 0 (doMove (tm 9)))])
noncomputable abbrev s24_6 : CC := (CC.seq s24_4 s24_5)
noncomputable abbrev l24_0 : CC := (CC.seq s24_1 s24_6)
noncomputable abbrev s24_7 : CC := (CC.loop l24_0)
noncomputable abbrev s24_8 : CC := (CC.block 0 s24_7)
noncomputable abbrev s24_9 : CC := (CC.seq (CC.region [(wB 24 (doMove (tm 4))), (wB 25 (doSliceArr 9 1 (tm 3) (some (tm 24)) none)), (wB 26 (doB2S (tm 25))), (wB 2 (doMove (tm 26)))]) CC.ret)
noncomputable abbrev s24_10 : CC := (CC.seq (CC.region [(wB 20 (doMove (tm 4))), (wB 21 (doMove (tm 5))), (wB 22 (doConv IntKind.u8 (tm 21))), (wB 23 (doIndexAddrArr 9 1 (tm 3) (tm 20))), (CO.mk G.none D.none Bool.true (CR.mk (doStore 1 (tm 23) (tm 22))))]) s24_9)
noncomputable abbrev s24_11 : CC := (CC.seq (CC.region [(wB 18 (doMove (tm 4))), (wB 19 (bin2 fSub (tm 18) (oN 1))), (wB 4 (doMove (tm 19)))]) s24_10)
noncomputable abbrev s24_12 : CC := (CC.seq (CC.region [(wB 16 (doMove (tm 4))), (wB 17 (bin2 fSub (oN 9) (tm 16))), (wB 5 (doMove (tm 17)))]) s24_11)
noncomputable abbrev s24_13 : CC := (CC.seq s24_8 s24_12)
noncomputable abbrev s24_14 : CC := (CC.seq (CC.region [(wB 4 (doMove (oN 9)))]) s24_13)
noncomputable abbrev s24_15 : CC := (CC.seq (CC.region [(wB 3 (doAlloc 80 [(V.i IntKind.u8 (Int.ofNat 0)), (V.i IntKind.u8 (Int.ofNat 0)), (V.i IntKind.u8 (Int.ofNat 0)), (V.i IntKind.u8 (Int.ofNat 0)), (V.i IntKind.u8 (Int.ofNat 0)), (V.i IntKind.u8 (Int.ofNat 0)), (V.i IntKind.u8 (Int.ofNat 0)), (V.i IntKind.u8 (Int.ofNat 0)), (V.i IntKind.u8 (Int.ofNat 0))]))]) s24_14)
noncomputable abbrev b24 : CC := (CC.seq (CC.region [(wB 2 (doMove (O.c (V.s 0 0))))]) s24_15)
theorem c24 : compFn Try.prog 24 = ⟨27, b24, [(Rs.tmp (slOf 2))]⟩ := by kernel_rfl
noncomputable abbrev s48_0 : CC := (CC.seq (CC.region [(wB 2 (doMove (oN 0))), (wB 3 (doMove (oN 0))), (wB 4 (doMove (oN 12)))]) CC.ret)
noncomputable abbrev s48_1 : CC := (CC.cond (tm 10) s48_0 CC.skip)
noncomputable abbrev s48_2 : CC := (CC.seq (CC.region [(wB 9 (doMove (tm 0))), (wB 10 (doSCmp eqS (tm 9) (O.c (V.s 0 0))))]) s48_1)
noncomputable abbrev s48_3 : CC := (CC.seq (CC.region [(wB 2 (doMove (oN 0))), (wB 3 (doMove (oN 0))), (wB 4 (doMove (oN 10)))]) CC.ret)
noncomputable abbrev s48_4 : CC := (CC.cond (tm 15) s48_3 CC.skip)
noncomputable abbrev s48_5 : CC := (CC.seq (CC.region [(wB 14 (doMove (tm 5))), (wB 15 (bin2 fGtr (tm 14) (oN 8)))]) s48_4)
noncomputable abbrev s48_6 : CC := (CC.seq (CC.region [(wB 2 (doMove (oN 0))), (wB 3 (doMove (oN 0))), (wB 4 (doMove (oN 12)))]) CC.ret)
noncomputable abbrev s48_7 : CC := (CC.cond (tm 21) s48_6 CC.skip)
noncomputable abbrev s48_8 : CC := (CC.seq (CC.region [(wB 18 (doMove (tm 6))), (wB 19 (doMove (tm 0))), (wB 20 (doLenS (tm 19))), (wB 21 (bin2 fGtr (tm 18) (tm 20)))]) s48_7)
noncomputable abbrev s48_9 : CC := (CC.seq (CC.region [(wB 2 (doMove (oN 0))), (wB 3 (doMove (oN 0))), (wB 4 (doMove (oN 10)))]) CC.ret)
noncomputable abbrev s48_10 : CC := (CC.cond (tm 30) s48_9 CC.skip)
noncomputable abbrev s48_11 : CC := (CC.seq (CC.region [(wB 29 (doMove (tm 8))), (wB 30 (doNot (tm 29)))]) s48_10)
noncomputable abbrev s48_12 : CC := (CC.seq (CC.region [(wB 31 (doMove (tm 7))), (wB 32 (doMove (tm 6))), (wB 2 (doMove (tm 31))), (wB 3 (doMove (tm 32))), (wB 4 (doMove (oN 0)))]) CC.ret)
noncomputable abbrev s48_13 : CC := (CC.seq s48_11 s48_12)
noncomputable abbrev s48_14 : CC := (CC.seq (CC.region [(wB 23 (doMove (tm 0))), (wB 24 (doMove (tm 6))), (wB 25 (doSSlice (tm 23) (some (oN 1)) (some (tm 24)))), (wB 26 (doCall 55 [(tm 25)])), (wB 22 (doMove (tm 26))), (wB 27 (doExtract 0 (tm 22))), (wB 28 (doExtract 1 (tm 22))), (wB 7 (doMove (tm 27))), (wB 8 (doMove (tm 28)))]) s48_13)
noncomputable abbrev s48_15 : CC := (CC.seq s48_8 s48_14)
noncomputable abbrev s48_16 : CC := (CC.seq (CC.region [(wB 16 (doMove (tm 5))), (wB 17 (bin2 fAdd (oN 1) (tm 16))), (wB 6 (doMove (tm 17)))]) s48_15)
noncomputable abbrev s48_17 : CC := (CC.seq s48_5 s48_16)
noncomputable abbrev s48_18 : CC := (CC.seq (CC.region [(wB 11 (doMove (tm 0))), (wB 12 (doSIndex (tm 11) (oN 0))), (wB 13 (doConv IntKind.i64 (tm 12))), (wB 5 (doMove (tm 13)))]) s48_17)
noncomputable abbrev s48_19 : CC := (CC.seq s48_2 s48_18)
noncomputable abbrev b48 : CC := (CC.seq (CC.region [(wB 2 (doMove (oN 0))), (wB 3 (doMove (oN 0))), (wB 4 (doMove (oN 0)))]) s48_19)
theorem c48 : compFn Try.prog 48 = ⟨33, b48, [(Rs.tmp (slOf 2)), (Rs.tmp (slOf 3)), (Rs.tmp (slOf 4))]⟩ := by kernel_rfl
noncomputable abbrev s55_0 : CC := (CC.cond (tm 10) CC.skip (CC.exit 0))
noncomputable abbrev s55_1 : CC := (CC.seq (CC.region [(wB 7 (doMove (tm 5))), (wB 8 (doMove (tm 0))), (wB 9 (doLenS (tm 8))), (wB 10 (bin2 fLss (tm 7) (tm 9)))]) s55_0)
noncomputable abbrev s55_2 : CC := (CC.cond (tm 22) (CC.exit 0) CC.skip)
noncomputable abbrev s55_3 : CC := (CC.seq (CC.region [(wB 23 (doMove (tm 4))), (wB 24 (bin2 fGtr (tm 23) (oN 36028797018963967))), (wB 22 (doMove (tm 24)))]) s55_2)
noncomputable abbrev s55_4 : CC := (CC.cond (tm 15) (CC.exit 0) s55_3)
noncomputable abbrev s55_5 : CC := (CC.seq (CC.region [(wB 16 (doMove (tm 5))), (wB 17 (bin2 fEql (tm 16) (oN 0))), (wB 18 (doMove (tm 17))), (wG 18 true 19 (doMove (tm 6))), (wG 18 true 20 (bin2 fEql (tm 19) (oN 0))), (wB 21 (doPick (tm 18) (tm 20) (O.c (V.b Bool.false)))), (wB 15 (doMove (tm 21)))]) s55_4)
noncomputable abbrev s55_6 : CC := (CC.block 2 s55_5)
noncomputable abbrev s55_7 : CC := (CC.region [(wB 29 (doMove (tm 5))), (wB 30 (bin2 fAdd (tm 29) (oN 1))), (wB 5 (doMove (tm 30)))])
noncomputable abbrev s55_8 : CC := (CC.seq (CC.region [(wB 25 (doMove (tm 4))), (wB 26 (doShift shlF (tm 25) (O.c (V.i IntKind.u64 (Int.ofNat 8))))), (wB 27 (doMove (tm 6))), (wB 28 (bin2 fOr (tm 26) (tm 27))), (wB 4 (doMove (tm 28)))]) s55_7)
noncomputable abbrev s55_9 : CC := (CC.seq s55_6 s55_8)
noncomputable abbrev s55_10 : CC := (CC.seq (CC.region [(wB 11 (doMove (tm 0))), (wB 12 (doMove (tm 5))), (wB 13 (doSIndex (tm 11) (tm 12))), (wB 14 (doConv IntKind.i64 (tm 13))), (wB 6 (doMove (tm 14)))]) s55_9)
noncomputable abbrev s55_11 : CC := (CC.block 1 s55_10)
noncomputable abbrev l55_0 : CC := (CC.seq s55_1 s55_11)
noncomputable abbrev s55_12 : CC := (CC.loop l55_0)
noncomputable abbrev s55_13 : CC := (CC.block 0 s55_12)
noncomputable abbrev s55_14 : CC := (CC.seq (CC.region [(wB 2 (doMove (oN 0))), (wB 3 (doMove (O.c (V.b Bool.false))))]) CC.ret)
noncomputable abbrev s55_15 : CC := (CC.cond (tm 34) s55_14 CC.skip)
noncomputable abbrev s55_16 : CC := (CC.seq (CC.region [(wB 31 (doMove (tm 5))), (wB 32 (doMove (tm 0))), (wB 33 (doLenS (tm 32))), (wB 34 (bin2 fLss (tm 31) (tm 33)))]) s55_15)
noncomputable abbrev s55_17 : CC := (CC.seq (CC.region [(wB 35 (doMove (tm 4))), (wB 2 (doMove (tm 35))), (wB 3 (doMove (O.c (V.b Bool.true))))]) CC.ret)
noncomputable abbrev s55_18 : CC := (CC.seq s55_16 s55_17)
noncomputable abbrev s55_19 : CC := (CC.seq s55_13 s55_18)
noncomputable abbrev s55_20 : CC := (CC.seq CC.skip s55_19)
noncomputable abbrev s55_21 : CC := (CC.seq (CC.region [(wB 4 (doMove (oN 0))), (wB 5 (doMove (oN 0)))]) s55_20)
noncomputable abbrev b55 : CC := (CC.seq (CC.region [(wB 2 (doMove (oN 0))), (wB 3 (doMove (O.c (V.b Bool.false))))]) s55_21)
theorem c55 : compFn Try.prog 55 = ⟨36, b55, [(Rs.tmp (slOf 2)), (Rs.tmp (slOf 3))]⟩ := by kernel_rfl
noncomputable abbrev s29_0 : CC := (CC.cond (tm 8) CC.skip (CC.exit 0))
noncomputable abbrev s29_1 : CC := (CC.seq (CC.region [(wB 7 (doMove (tm 4))), (wB 8 (bin2 fGtr (tm 7) (oN 0)))]) s29_0)
noncomputable abbrev s29_2 : CC := (CC.region [(wB 11 (doMove (tm 4))), (wB 12 (doRem (tm 11) (oN 256))), (wB 13 (doConv IntKind.u8 (tm 12))), (wB 14 (doBuildSlice 5 1 [(V.i IntKind.u8 (Int.ofNat 0))] [(Pt.mk 0 1 (tm 13))])), (wB 15 (doB2S (tm 14))), (wB 16 (doMove (tm 3))), (wB 17 (doConcat (tm 15) (tm 16))), (wB 3 (doMove (tm 17)))])
noncomputable abbrev s29_3 : CC := (CC.block 1 s29_2)
noncomputable abbrev s29_4 : CC := (CC.region [(wB 9 (doMove (tm 4))), (wB 10 (bin2 fQuo (tm 9) (oN 256))), (wB 4 (doMove (tm 10)))])
noncomputable abbrev s29_5 : CC := (CC.seq s29_3 s29_4)
noncomputable abbrev l29_0 : CC := (CC.seq s29_1 s29_5)
noncomputable abbrev s29_6 : CC := (CC.loop l29_0)
noncomputable abbrev s29_7 : CC := (CC.block 0 s29_6)
noncomputable abbrev s29_8 : CC := (CC.seq (CC.region [(wB 5 (doMove (tm 0))), (wB 6 (doMax (oN 0) (tm 5))), (wB 4 (doMove (tm 6)))]) s29_7)
noncomputable abbrev s29_9 : CC := (CC.seq (CC.region [(wB 18 (doMove (tm 3))), (wB 19 (doLenS (tm 18))), (wB 20 (doConv IntKind.u8 (tm 19))), (wB 21 (doBuildSlice 5 1 [(V.i IntKind.u8 (Int.ofNat 0))] [(Pt.mk 0 1 (tm 20))])), (wB 22 (doB2S (tm 21))), (wB 23 (doMove (tm 3))), (wB 24 (doConcat (tm 22) (tm 23))), (wB 2 (doMove (tm 24)))]) CC.ret)
noncomputable abbrev s29_10 : CC := (CC.seq s29_8 s29_9)
noncomputable abbrev s29_11 : CC := (CC.seq (CC.region [(wB 3 (doMove (O.c (V.s 0 0))))]) s29_10)
noncomputable abbrev b29 : CC := (CC.seq (CC.region [(wB 2 (doMove (O.c (V.s 0 0))))]) s29_11)
theorem c29 : compFn Try.prog 29 = ⟨25, b29, [(Rs.tmp (slOf 2))]⟩ := by kernel_rfl
noncomputable abbrev s34_0 : CC := (CC.seq (CC.region [(wB 2 (doMove (oN 0))), (wB 3 (doMove (oN 0))), (wB 4 (doMove (oN 12)))]) CC.ret)
noncomputable abbrev s34_1 : CC := (CC.cond (tm 10) s34_0 CC.skip)
noncomputable abbrev s34_2 : CC := (CC.seq (CC.region [(wB 8 (doMove (tm 0))), (wB 9 (doLenS (tm 8))), (wB 10 (bin2 fEql (tm 9) (oN 0)))]) s34_1)
noncomputable abbrev s34_3 : CC := (CC.seq (CC.region [(wB 2 (doMove (oN 0))), (wB 3 (doMove (oN 0))), (wB 4 (doMove (oN 10)))]) CC.ret)
noncomputable abbrev s34_4 : CC := (CC.cond (tm 15) s34_3 CC.skip)
noncomputable abbrev s34_5 : CC := (CC.seq (CC.region [(wB 14 (doMove (tm 5))), (wB 15 (bin2 fGtr (tm 14) (oN 8)))]) s34_4)
noncomputable abbrev s34_6 : CC := (CC.seq (CC.region [(wB 2 (doMove (oN 0))), (wB 3 (doMove (oN 0))), (wB 4 (doMove (oN 12)))]) CC.ret)
noncomputable abbrev s34_7 : CC := (CC.cond (tm 20) s34_6 CC.skip)
noncomputable abbrev s34_8 : CC := (CC.seq (CC.region [(wB 16 (doMove (tm 0))), (wB 17 (doLenS (tm 16))), (wB 18 (doMove (tm 5))), (wB 19 (bin2 fAdd (tm 18) (oN 1))), (wB 20 (bin2 fLss (tm 17) (tm 19)))]) s34_7)
noncomputable abbrev s34_9 : CC := (CC.seq (CC.region [(wB 2 (doMove (oN 0))), (wB 3 (doMove (oN 0))), (wB 4 (doMove (oN 10)))]) CC.ret)
noncomputable abbrev s34_10 : CC := (CC.cond (tm 36) s34_9 CC.skip)
noncomputable abbrev s34_11 : CC := (CC.seq (CC.region [(wB 21 (doMove (tm 5))), (wB 22 (bin2 fGtr (tm 21) (oN 0))), (wB 23 (doMove (tm 22))), (wG 23 true 24 (doMove (tm 0))), (wG 23 true 25 (doSIndex (tm 24) (oN 1))), (wG 23 true 26 (bin2 fEql (tm 25) (O.c (V.i IntKind.u8 (Int.ofNat 0))))), (wB 27 (doPick (tm 23) (tm 26) (O.c (V.b Bool.false)))), (wB 28 (doMove (tm 27))), (wG 28 false 29 (doMove (tm 5))), (wG 28 false 30 (bin2 fEql (tm 29) (oN 8))), (wG 28 false 31 (doMove (tm 30))), (wG 31 true 32 (doMove (tm 0))), (wG 31 true 33 (doSIndex (tm 32) (oN 1))), (wG 31 true 34 (bin2 fGeq (tm 33) (O.c (V.i IntKind.u8 (Int.ofNat 128))))), (wG 28 false 35 (doPick (tm 31) (tm 34) (O.c (V.b Bool.false)))), (wB 36 (doPick (tm 28) (O.c (V.b Bool.true)) (tm 35)))]) s34_10)
noncomputable abbrev s34_12 : CC := (CC.cond (tm 39) CC.skip (CC.exit 0))
noncomputable abbrev s34_13 : CC := (CC.seq (CC.region [(wB 37 (doMove (tm 7))), (wB 38 (doMove (tm 5))), (wB 39 (bin2 fLeq (tm 37) (tm 38)))]) s34_12)
noncomputable abbrev s34_14 : CC := (CC.region [(wB 42 (doMove (tm 6))), (wB 43 (bin2 fMul (tm 42) (oN 256))), (wB 44 (doMove (tm 0))), (wB 45 (doMove (tm 7))), (wB 46 (doSIndex (tm 44) (tm 45))), (wB 47 (doConv IntKind.i64 (tm 46))), (wB 48 (bin2 fAdd (tm 43) (tm 47))), (wB 6 (doMove (tm 48)))])
noncomputable abbrev s34_15 : CC := (CC.block 1 s34_14)
noncomputable abbrev s34_16 : CC := (CC.region [(wB 40 (doMove (tm 7))), (wB 41 (bin2 fAdd (tm 40) (oN 1))), (wB 7 (doMove (tm 41)))])
noncomputable abbrev s34_17 : CC := (CC.seq s34_15 s34_16)
noncomputable abbrev l34_0 : CC := (CC.seq s34_13 s34_17)
noncomputable abbrev s34_18 : CC := (CC.loop l34_0)
noncomputable abbrev s34_19 : CC := (CC.block 0 s34_18)
noncomputable abbrev s34_20 : CC := (CC.seq (CC.region [(wB 7 (doMove (oN 1)))]) s34_19)
noncomputable abbrev s34_21 : CC := (CC.seq (CC.region [(wB 49 (doMove (tm 6))), (wB 50 (doMove (tm 5))), (wB 51 (bin2 fAdd (tm 50) (oN 1))), (wB 2 (doMove (tm 49))), (wB 3 (doMove (tm 51))), (wB 4 (doMove (oN 0)))]) CC.ret)
noncomputable abbrev s34_22 : CC := (CC.seq s34_20 s34_21)
noncomputable abbrev s34_23 : CC := (CC.seq (CC.region [(wB 6 (doMove (oN 0)))]) s34_22)
noncomputable abbrev s34_24 : CC := (CC.seq s34_11 s34_23)
noncomputable abbrev s34_25 : CC := (CC.seq s34_8 s34_24)
noncomputable abbrev s34_26 : CC := (CC.seq s34_5 s34_25)
noncomputable abbrev s34_27 : CC := (CC.seq (CC.region [(wB 11 (doMove (tm 0))), (wB 12 (doSIndex (tm 11) (oN 0))), (wB 13 (doConv IntKind.i64 (tm 12))), (wB 5 (doMove (tm 13)))]) s34_26)
noncomputable abbrev s34_28 : CC := (CC.seq s34_2 s34_27)
noncomputable abbrev b34 : CC := (CC.seq (CC.region [(wB 2 (doMove (oN 0))), (wB 3 (doMove (oN 0))), (wB 4 (doMove (oN 0)))]) s34_28)
theorem c34 : compFn Try.prog 34 = ⟨52, b34, [(Rs.tmp (slOf 2)), (Rs.tmp (slOf 3)), (Rs.tmp (slOf 4))]⟩ := by kernel_rfl
noncomputable abbrev s43_0 : CC := (CC.seq (CC.region [(wB 3 (doMove (tm 0))), (wB 4 (doLenS (tm 3))), (wB 5 (doCall 24 [(tm 4)])), (wB 6 (doMove (tm 0))), (wB 7 (doConcat (tm 5) (tm 6))), (wB 2 (doMove (tm 7)))]) CC.ret)
noncomputable abbrev b43 : CC := (CC.seq (CC.region [(wB 2 (doMove (O.c (V.s 0 0))))]) s43_0)
theorem c43 : compFn Try.prog 43 = ⟨8, b43, [(Rs.tmp (slOf 2))]⟩ := by kernel_rfl
noncomputable abbrev s56_0 : CC := (CC.seq (CC.region [(wB 17 (doMove (tm 7))), (wB 2 (doMove (O.c (V.s 0 0)))), (wB 3 (doMove (oN 0))), (wB 4 (doMove (tm 17)))]) CC.ret)
noncomputable abbrev s56_1 : CC := (CC.cond (tm 16) s56_0 CC.skip)
noncomputable abbrev s56_2 : CC := (CC.seq (CC.region [(wB 15 (doMove (tm 7))), (wB 16 (bin2 fNeq (tm 15) (oN 0)))]) s56_1)
noncomputable abbrev s56_3 : CC := (CC.seq (CC.region [(wB 2 (doMove (O.c (V.s 0 0)))), (wB 3 (doMove (oN 0))), (wB 4 (doMove (oN 12)))]) CC.ret)
noncomputable abbrev s56_4 : CC := (CC.cond (tm 24) s56_3 CC.skip)
noncomputable abbrev s56_5 : CC := (CC.seq (CC.region [(wB 21 (doMove (tm 5))), (wB 22 (doMove (tm 8))), (wB 23 (doLenS (tm 22))), (wB 24 (bin2 fGtr (tm 21) (tm 23)))]) s56_4)
noncomputable abbrev s56_6 : CC := (CC.seq (CC.region [(wB 25 (doMove (tm 8))), (wB 26 (doMove (tm 5))), (wB 27 (doSSlice (tm 25) none (some (tm 26)))), (wB 28 (doMove (tm 6))), (wB 29 (doMove (tm 5))), (wB 30 (bin2 fAdd (tm 28) (tm 29))), (wB 2 (doMove (tm 27))), (wB 3 (doMove (tm 30))), (wB 4 (doMove (oN 0)))]) CC.ret)
noncomputable abbrev s56_7 : CC := (CC.seq s56_5 s56_6)
noncomputable abbrev s56_8 : CC := (CC.seq (CC.region [(wB 18 (doMove (tm 0))), (wB 19 (doMove (tm 6))), (wB 20 (doSSlice (tm 18) (some (tm 19)) none)), (wB 8 (doMove (tm 20)))]) s56_7)
noncomputable abbrev s56_9 : CC := (CC.seq s56_2 s56_8)
noncomputable abbrev s56_10 : CC := (CC.seq (CC.region [(wB 10 (doMove (tm 0))), (wB 11 (doCall 48 [(tm 10)])), (wB 9 (doMove (tm 11))), (wB 12 (doExtract 0 (tm 9))), (wB 13 (doExtract 1 (tm 9))), (wB 14 (doExtract 2 (tm 9))), (wB 5 (doMove (tm 12))), (wB 6 (doMove (tm 13))), (wB 7 (doMove (tm 14)))]) s56_9)
noncomputable abbrev b56 : CC := (CC.seq (CC.region [(wB 2 (doMove (O.c (V.s 0 0)))), (wB 3 (doMove (oN 0))), (wB 4 (doMove (oN 0)))]) s56_10)
theorem c56 : compFn Try.prog 56 = ⟨31, b56, [(Rs.tmp (slOf 2)), (Rs.tmp (slOf 3)), (Rs.tmp (slOf 4))]⟩ := by kernel_rfl
noncomputable abbrev s47_0 : CC := (CC.seq (CC.region [(wB 3 (doMove (tm 0))), (wB 4 (doLenS (tm 3))), (wB 5 (doCall 29 [(tm 4)])), (wB 6 (doMove (tm 0))), (wB 7 (doConcat (tm 5) (tm 6))), (wB 2 (doMove (tm 7)))]) CC.ret)
noncomputable abbrev b47 : CC := (CC.seq (CC.region [(wB 2 (doMove (O.c (V.s 0 0))))]) s47_0)
theorem c47 : compFn Try.prog 47 = ⟨8, b47, [(Rs.tmp (slOf 2))]⟩ := by kernel_rfl
noncomputable abbrev s50_0 : CC := (CC.seq (CC.region [(wB 16 (doMove (tm 7))), (wB 2 (doMove (O.c (V.s 0 0)))), (wB 3 (doMove (oN 0))), (wB 4 (doMove (tm 16)))]) CC.ret)
noncomputable abbrev s50_1 : CC := (CC.cond (tm 15) s50_0 CC.skip)
noncomputable abbrev s50_2 : CC := (CC.seq (CC.region [(wB 14 (doMove (tm 7))), (wB 15 (bin2 fNeq (tm 14) (oN 0)))]) s50_1)
noncomputable abbrev s50_3 : CC := (CC.seq (CC.region [(wB 2 (doMove (O.c (V.s 0 0)))), (wB 3 (doMove (oN 0))), (wB 4 (doMove (oN 12)))]) CC.ret)
noncomputable abbrev s50_4 : CC := (CC.cond (tm 22) s50_3 CC.skip)
noncomputable abbrev s50_5 : CC := (CC.seq (CC.region [(wB 17 (doMove (tm 5))), (wB 18 (doMove (tm 0))), (wB 19 (doLenS (tm 18))), (wB 20 (doMove (tm 6))), (wB 21 (bin2 fSub (tm 19) (tm 20))), (wB 22 (bin2 fGtr (tm 17) (tm 21)))]) s50_4)
noncomputable abbrev s50_6 : CC := (CC.seq (CC.region [(wB 23 (doMove (tm 0))), (wB 24 (doMove (tm 6))), (wB 25 (doMove (tm 6))), (wB 26 (doMove (tm 5))), (wB 27 (bin2 fAdd (tm 25) (tm 26))), (wB 28 (doSSlice (tm 23) (some (tm 24)) (some (tm 27)))), (wB 29 (doMove (tm 6))), (wB 30 (doMove (tm 5))), (wB 31 (bin2 fAdd (tm 29) (tm 30))), (wB 2 (doMove (tm 28))), (wB 3 (doMove (tm 31))), (wB 4 (doMove (oN 0)))]) CC.ret)
noncomputable abbrev s50_7 : CC := (CC.seq s50_5 s50_6)
noncomputable abbrev s50_8 : CC := (CC.seq s50_2 s50_7)
noncomputable abbrev s50_9 : CC := (CC.seq (CC.region [(wB 9 (doMove (tm 0))), (wB 10 (doCall 34 [(tm 9)])), (wB 8 (doMove (tm 10))), (wB 11 (doExtract 0 (tm 8))), (wB 12 (doExtract 1 (tm 8))), (wB 13 (doExtract 2 (tm 8))), (wB 5 (doMove (tm 11))), (wB 6 (doMove (tm 12))), (wB 7 (doMove (tm 13)))]) s50_8)
noncomputable abbrev b50 : CC := (CC.seq (CC.region [(wB 2 (doMove (O.c (V.s 0 0)))), (wB 3 (doMove (oN 0))), (wB 4 (doMove (oN 0)))]) s50_9)
theorem c50 : compFn Try.prog 50 = ⟨32, b50, [(Rs.tmp (slOf 2)), (Rs.tmp (slOf 3)), (Rs.tmp (slOf 4))]⟩ := by kernel_rfl
end Go.Proofs.Ythncpgkpkdolfaa

namespace Go.Proofs.Ythncpgkpkdolfaa
open Go Go.Ev
theorem hmix : Try.prog.follows .mixedOrders = true := by kernel_rfl
open Go.Ev in
instance {nt : Nat} {t : F} {h : H} {K : X → F → H → Prop} {l : List CO} : St (Ok Try.prog nt (.draws l) t h K) (DO Try.prog l t h (K .normal)) := ⟨Ok.dw hmix⟩
end Go.Proofs.Ythncpgkpkdolfaa

set_option maxRecDepth 100000
set_option maxHeartbeats 8000000
set_option linter.all false
namespace Go.Proofs.Ythncpgkpkdolfaa
open Go Go.Ev
theorem or_add {n d : Nat} (h : d < 256) : n * 2 ^ 8 ||| d = n * 256 + d := by
  have := Nat.two_pow_add_eq_or_of_lt (i := 8) (b := d) (by omega) n
  rw [Nat.mul_comm n, ← this]
theorem pk_ge (l : List UInt8) (i : Nat) (h : i ≤ l.length) : pk (l.take i) * 256 ^ (l.length - i) ≤ pk l := by
  have e := pk_append (l.take i) (l.drop i)
  rw [List.take_append_drop, List.length_drop] at e
  omega
theorem pk_bad {l : List UInt8} {i : Nat} (h8 : l.length ≤ 8) (hi : i < l.length) (h : 36028797018963967 < pk (l.take i)) : 9223372036854775808 ≤ pk l := by
  have h1 := pk_ge l i (by omega)
  have h2 : 256 ≤ 256 ^ (l.length - i) := by
    have := Nat.pow_le_pow_right (n := 256) (by omega) (show 1 ≤ l.length - i by omega)
    simpa using this
  have h3 := Nat.mul_le_mul (show 36028797018963968 ≤ pk (l.take i) by omega) h2
  omega
theorem head_zero {l : List UInt8} (h : (l.getD 0 0).toNat = 0) (h0 : 0 < l.length) : l.head? = some 0 := by
  cases l with
  | nil => simp at h0
  | cons c r => have : c = 0 := UInt8.toNat_inj.1 h
                rw [this]; rfl
theorem head_pos {l : List UInt8} (h : ¬ (l.getD 0 0).toNat = 0) : l.head? ≠ some 0 := by
  cases l with
  | nil => simp
  | cons c r => intro h0; have : c = 0 := by simpa using h0
                subst this; exact h rfl
theorem number_ok {h : H} {l : List UInt8} (h8 : l.length ≤ 8) : FnOk Try.prog 55 [sv l] h fun y h' => y = numR l ∧ h' = h := by
  refine fn_go c55 (by intro hb; cases hb) (by simp) (by simp) fun Q hQ => ?_
  simp only [slotsF, Nat.reduceAdd]
  repeat' (first
    | refine St.h ?_
    | simp (disch := first | omega | (simp only [lnv]; omega)) only [wlk, ↓get_put', ↓reduceIte, seval]
    | (with_reducible (first | apply cd_split | apply gd_split)) <;> (intro hc; (try simp only [hcn] at hc); (try simp only [hc]); (try simp only [hcl] at hc); try omega))
  refine Ok.lp (fun m t g => ∃ i : Nat, i ≤ l.length ∧ m = l.length - i ∧ g = h ∧ get 0 t = sv l ∧ get 4 t = .i .i64 ((pk (l.take i) : Nat) : Int) ∧ get 5 t = .i .i64 (i : Int) ∧ (0 < i → l.head? ≠ some 0) ∧ pk (l.take i) ≤ 9223372036854775807) l.length ?_ ?_
  · simp (disch := first | omega | (simp only [lnv]; omega)) only [wlk, ↓get_put', ↓reduceIte, seval]
    exact ⟨0, by omega, rfl, trivial, trivial, rfl, rfl, fun h => absurd h (by omega), by simp [pk]⟩
  · rintro I hI m t g ⟨i, hi', rfl, rfl, f0, f4, f5, hF, hV⟩
    have hgd := (l.getD i 0).toNat_lt
    repeat' (first
      | refine St.h ?_
      | simp (disch := first | omega | (simp only [lnv]; omega)) only [wlk, ↓get_put', ↓reduceIte, seval, *]
      | (with_reducible (first | apply cd_split | apply gd_split)) <;> (intro hc; (try simp only [hcn] at hc); (try simp only [hc]); (try simp only [hcl] at hc); try omega))
    · obtain rfl : i = 0 := by omega
      exact ⟨(numR_bad (.inl (head_zero (by omega) (by omega)))).symm, trivial⟩
    · exact ⟨(numR_bad (.inr (pk_bad h8 (by omega) (by omega : 36028797018963967 < pk (l.take i))))).symm, trivial⟩
    · obtain rfl : i = 0 := by omega
      have n1 : ((pk (l.take 0) : Int) * 256).toNat ||| (l.getD 0 0).toNat = pk (l.take 1) := by
        rw [show ((pk (l.take 0) : Int) * 256).toNat = pk (l.take 0) * 2 ^ 8 by omega, or_add (by omega), pk_take (by omega)]
      have n2 : pk (l.take 1) ≤ 9223372036854775807 := by rw [pk_take (by omega)]; omega
      refine lp_next hI (l.length - (0 + 1)) (by omega) ⟨0 + 1, by omega, rfl, rfl, ?_, ?_, ?_, fun _ => head_pos (by omega), n2⟩
      · simp (disch := first | omega | (simp only [lnv]; omega)) only [wlk, ↓get_put', ↓reduceIte, seval, *]
      · simp (disch := first | omega | (simp only [lnv]; omega)) only [wlk, ↓get_put', ↓reduceIte, seval, *]
      · simp (disch := first | omega | (simp only [lnv]; omega)) only [wlk, ↓get_put', ↓reduceIte, seval, *]
    · exact ⟨(numR_bad (.inr (pk_bad h8 (by omega) (by omega : 36028797018963967 < pk (l.take i))))).symm, trivial⟩
    · have n1 : ((pk (l.take i) : Int) * 256).toNat ||| (l.getD i 0).toNat = pk (l.take (i + 1)) := by
        rw [show ((pk (l.take i) : Int) * 256).toNat = pk (l.take i) * 2 ^ 8 by omega, or_add (by omega), pk_take (by omega)]
      have n2 : pk (l.take (i + 1)) ≤ 9223372036854775807 := by rw [pk_take (by omega)]; omega
      refine lp_next hI (l.length - (i + 1)) (by omega) ⟨i + 1, by omega, rfl, rfl, ?_, ?_, ?_, fun _ => hF (by omega), n2⟩
      · simp (disch := first | omega | (simp only [lnv]; omega)) only [wlk, ↓get_put', ↓reduceIte, seval, *]
      · simp (disch := first | omega | (simp only [lnv]; omega)) only [wlk, ↓get_put', ↓reduceIte, seval, *]
      · simp (disch := first | omega | (simp only [lnv]; omega)) only [wlk, ↓get_put', ↓reduceIte, seval, *]; rfl
    · have : i = l.length := by omega
      subst this
      rw [List.take_length] at *
      refine ⟨(numR_ok ?_).symm, trivial⟩
      rintro (h1 | h1)
      · cases l with
        | nil => cases h1
        | cons c r => exact hF (by simp) h1
      · omega
theorem takeNum_ok {h : H} {l : List UInt8} (hl : l.length ≤ 1000000) : FnOk Try.prog 48 [sv l] h fun y h' => y = tri (takeN l) ∧ h' = h := by
  refine fn_go c48 (by intro hb; cases hb) (by simp) (by simp) fun Q hQ => ?_
  simp only [slotsF, Nat.reduceAdd]
  cases l with
  | nil =>
    repeat' (first
      | refine St.h ?_
      | simp (disch := first | omega | (simp only [lnv]; omega)) only [wlk, ↓get_put', ↓reduceIte, seval, *]
      | (with_reducible (first | apply cd_split | apply gd_split)) <;> (intro hc; (try simp only [hcn] at hc); (try simp only [hc]); (try simp only [hcl] at hc); try omega))
    exact ⟨rfl, trivial⟩
  | cons w r =>
  have hlen : (w :: r).length = r.length + 1 := rfl
  have hw := w.toNat_lt
  have hgd : (w :: r).getD 0 0 = w := rfl
  have d0 : (w :: r = []) = False := by simp
  repeat' (first
    | refine St.h ?_
    | simp (disch := first | omega | (simp only [lnv]; omega)) only [wlk, ↓get_put', ↓reduceIte, seval, *]
    | (with_reducible (first | apply cd_split | apply gd_split)) <;> (intro hc; (try simp only [hcn] at hc); (try simp only [hc]); (try simp only [hcl] at hc); try omega))
  · exact ⟨by rw [takeN_big (by omega)]; rfl, trivial⟩
  · exact ⟨by rw [takeN_short (by omega) (by omega)]; rfl, trivial⟩
  have hsl : ((w :: r).take (1 + (w.toNat : Int)).toNat).drop 1 = r.take w.toNat := by
    rw [show (1 + (w.toNat : Int)).toNat = w.toNat + 1 by omega]; simp
  rw [hsl]
  refine CL.mk (number_ok (by rw [List.length_take]; omega)) ?_
  rintro _ _ ⟨rfl, rfl⟩
  by_cases hb : badD (r.take w.toNat)
  · rw [numR_bad hb]
    repeat' (first
      | refine St.h ?_
      | simp (disch := first | omega | (simp only [lnv]; omega)) only [wlk, ↓get_put', ↓reduceIte, seval, *]
      | (with_reducible (first | apply cd_split | apply gd_split)) <;> (intro hc; (try simp only [hcn] at hc); (try simp only [hc]); (try simp only [hcl] at hc); try omega))
    exact ⟨by rw [takeN_bad (by omega) (by omega) hb]; rfl, trivial⟩
  · rw [numR_ok hb]
    repeat' (first
      | refine St.h ?_
      | simp (disch := first | omega | (simp only [lnv]; omega)) only [wlk, ↓get_put', ↓reduceIte, seval, *]
      | (with_reducible (first | apply cd_split | apply gd_split)) <;> (intro hc; (try simp only [hcn] at hc); (try simp only [hc]); (try simp only [hcl] at hc); try omega))
    refine ⟨?_, trivial⟩
    rw [takeN_ok (by omega) (by omega) hb, show (1 : Int) + (w.toNat : Int) = ((w.toNat + 1 : Nat) : Int) by omega]; rfl
theorem num_ok {h : H} {n : Int} (hn : n ≤ 9223372036854775807) (hf : B.val h.floor ≤ B.val h.next) : FnOk Try.prog 24 [.i .i64 n] h fun y h' => y = sv (numB n.toNat) ∧ Stay nowhere h h' := by
  refine fn_go c24 (by intro hb; cases hb) (by simp) (by simp) fun Q hQ => ?_
  simp only [slotsF, Nat.reduceAdd]
  have hN : n.toNat ≤ 9223372036854775807 := by omega
  have h8 := digs_len8 hN
  repeat' (first
    | refine St.h ?_
    | simp (disch := first | omega | (simp only [lnv]; omega)) only [wlk, ↓get_put', ↓reduceIte, seval]
    | (with_reducible (first | apply cd_split | apply gd_split)) <;> (intro hc; (try simp only [hcn] at hc); (try simp only [hc]); (try simp only [hcl] at hc); try omega))
  refine AL.own (by simp) hf fun h1 s1 n1 o1 => ?_
  repeat' (first
    | refine St.h ?_
    | simp (disch := first | omega | (simp only [lnv]; omega)) only [wlk, ↓get_put', ↓reduceIte, seval, List.length_cons, List.length_nil]
    | (with_reducible (first | apply cd_split | apply gd_split)) <;> (intro hc; (try simp only [hcn] at hc); (try simp only [hc]); (try simp only [hcl] at hc); try omega))
  refine Ok.lp (fun m t g => ∃ (z : Int) (d : List UInt8) (xs : List V), m = z.toNat ∧ z.toNat ≤ 9223372036854775807 ∧ digs z.toNat ++ d = digs n.toNat ∧ get 0 t = .i .i64 z ∧ get 3 t = .p h.next 0 0 9 ∧ get 4 t = .i .i64 ((9 - d.length : Nat) : Int) ∧ Ev.Own g h.next xs ∧ xs.length = 9 ∧ xs.drop (9 - d.length) = d.map bv ∧ Stay nowhere h g) n.toNat ?_ ?_
  · simp (disch := first | omega | (simp only [lnv]; omega)) only [wlk, ↓get_put', ↓reduceIte, seval]
    refine ⟨n, [], _, rfl, hN, by simp, rfl, trivial, rfl, o1, rfl, rfl, s1⟩
  rintro I hI m t g ⟨z, d, xs, rfl, hz, hD, f0, f3, f4, o, hx, hxd, st⟩
  have hdl : (digs z.toNat).length + d.length ≤ 8 := by rw [← List.length_append, hD]; exact h8
  have ea2 : (((9 - d.length : Nat) : Int) - 1) = ((8 - d.length : Nat) : Int) := by omega
  have ew : (9 : Int) - ((9 - d.length : Nat) : Int) = (d.length : Int) := by omega
  repeat' (first
    | refine St.h ?_
    | simp (disch := first | omega | (simp only [lnv]; omega)) only [wlk, ↓get_put', ↓reduceIte, seval, f0, f3, f4, hQ, ea2, ew, wrap_u8m]
    | (with_reducible (first | apply cd_split | apply gd_split)) <;> (intro hc; (try simp only [hcn] at hc); (try simp only [hc]); (try simp only [hcl] at hc); try omega))
  · obtain ⟨c, rfl⟩ := Int.eq_ofNat_of_zero_le (by omega : 0 ≤ z)
    rw [Int.toNat_natCast] at hD hdl hz
    have hc0 : c ≠ 0 := by omega
    have hdp := digs_pos hc0
    have hd1 : (digs c).length = (digs (c / 256)).length + 1 := by rw [hdp]; simp
    refine ST.own (y := bv (UInt8.ofNat (c % 256))) o (by rw [← bv_ofNat]; simp; rfl) rfl (by omega) (by omega) fun g' o' s' => ?_
    repeat' (first
      | refine St.h ?_
      | simp (disch := first | omega | (simp only [lnv]; omega)) only [wlk, ↓get_put', ↓reduceIte, seval, f0, f3, f4, ea2]
      | (with_reducible (first | apply cd_split | apply gd_split)) <;> (intro hc; (try simp only [hcn] at hc); (try simp only [hc]); (try simp only [hcl] at hc); try omega))
    have hdrop : (xs.set (8 - d.length) (bv (UInt8.ofNat (c % 256)))).drop (9 - (UInt8.ofNat (c % 256) :: d).length) = (UInt8.ofNat (c % 256) :: d).map bv := by
      rw [show 9 - (UInt8.ofNat (c % 256) :: d).length = 8 - d.length by simp only [List.length_cons]; omega, drop_set1 _ _ _ (by omega), show 8 - d.length + 1 = 9 - d.length by omega, hxd]; rfl
    refine lp_next hI (c / 256) (by omega) ⟨((c / 256 : Nat) : Int), UInt8.ofNat (c % 256) :: d, _, by rw [Int.toNat_natCast], by rw [Int.toNat_natCast]; omega, ?_, ?_, ?_, ?_, o', by rw [List.length_set]; exact hx, hdrop, st.past' s' fun i hi => by rw [hi]; exact Nat.le_refl _⟩
    · rw [Int.toNat_natCast, ← hD, hdp]; simp
    · simp (disch := first | omega | (simp only [lnv]; omega)) only [wlk, ↓get_put', ↓reduceIte, seval]; rfl
    · simp (disch := first | omega | (simp only [lnv]; omega)) only [wlk, ↓get_put', ↓reduceIte, seval, f3]
    · simp (disch := first | omega | (simp only [lnv]; omega)) only [wlk, ↓get_put', ↓reduceIte, seval]
      congr 1; simp only [List.length_cons]; omega
  · have hz0 : z.toNat = 0 := by omega
    rw [hz0, digs_zero, List.nil_append] at hD
    refine ST.own (y := bv (UInt8.ofNat d.length)) o (by rw [← bv_ofNat, Nat.mod_eq_of_lt (by omega)]; rfl) rfl (by omega) (by omega) fun g' o' s' => ?_
    have hlen : (xs.set (8 - d.length) (bv (UInt8.ofNat d.length))).length = 9 := by rw [List.length_set]; exact hx
    have hdrop : (xs.set (8 - d.length) (bv (UInt8.ofNat d.length))).drop (8 - d.length) = (UInt8.ofNat d.length :: d).map bv := by
      rw [drop_set1 _ _ _ (by omega), show 8 - d.length + 1 = 9 - d.length by omega, hxd]; rfl
    have hL := o'.back (a := 8 - d.length) (fin := 9) (by omega) (by omega) (some (9 - (8 - d.length)))
    rw [hdrop, hlen] at hL
    repeat' (first
      | refine St.h ?_
      | simp (disch := first | omega | (simp only [lnv]; omega)) only [wlk, ↓get_put', ↓reduceIte, seval, f0, f3, f4, hL.bs (by simp)]
      | (with_reducible (first | apply cd_split | apply gd_split)) <;> (intro hc; (try simp only [hcn] at hc); (try simp only [hc]); (try simp only [hcl] at hc); try omega))
    subst hQ
    exact ⟨by unfold numB; rw [← hD], st.past' s' fun i hi => by rw [hi]; exact Nat.le_refl _⟩
theorem rnum_ok {h : H} {n : Int} (hn : n ≤ 9223372036854775807) (hf : B.val h.floor ≤ B.val h.next) : FnOk Try.prog 29 [.i .i64 n] h fun y h' => y = sv (numB n.toNat) ∧ Stay nowhere h h' := by
  refine fn_go c29 (by intro hb; cases hb) (by simp) (by simp) fun Q hQ => ?_
  simp only [slotsF, Nat.reduceAdd]
  have hN : n.toNat ≤ 9223372036854775807 := by omega
  have h8 := digs_len8 hN
  repeat' (first
    | refine St.h ?_
    | simp (disch := first | omega | (simp only [lnv]; omega)) only [wlk, ↓get_put', ↓reduceIte, seval]
    | (with_reducible (first | apply cd_split | apply gd_split)) <;> (intro hc; (try simp only [hcn] at hc); (try simp only [hc]); (try simp only [hcl] at hc); try omega))
  refine Ok.lp (fun m t g => ∃ (c : Nat) (d : List UInt8), m = c ∧ c ≤ 9223372036854775807 ∧ digs c ++ d = digs n.toNat ∧ get 3 t = sv d ∧ get 4 t = .i .i64 (c : Int) ∧ Stay nowhere h g) n.toNat ?_ ?_
  · simp (disch := first | omega | (simp only [lnv]; omega)) only [wlk, ↓get_put', ↓reduceIte, seval]
    exact ⟨n.toNat, [], rfl, hN, by simp, rfl, by congr 1; omega, Stay.refl _ _⟩
  rintro I hI m t g ⟨c, d, rfl, hc1, hD, f3, f4, st⟩
  have hdl : (digs m).length + d.length ≤ 8 := by rw [← List.length_append, hD]; exact h8
  have hfg := st.fl hf
  repeat' (first
    | refine St.h ?_
    | simp (disch := first | omega | (simp only [lnv]; omega)) only [wlk, ↓get_put', ↓reduceIte, seval, f3, f4, wrap_u8m]
    | (with_reducible (first | apply cd_split | apply gd_split)) <;> (intro hc; (try simp only [hcn] at hc); (try simp only [hc]); (try simp only [hcl] at hc); try omega))
  · refine AL.str (bs := [UInt8.ofNat (m % 256)]) (by rw [bv_i (by omega) (by omega)]; rfl) (by simp) rfl rfl (by simp) hfg fun h' u s1 => ?_
    repeat' (first
      | refine St.h ?_
      | simp (disch := first | omega | (simp only [lnv]; omega)) only [wlk, ↓get_put', ↓reduceIte, seval, f3, f4]
      | (with_reducible (first | apply cd_split | apply gd_split)) <;> (intro hc; (try simp only [hcn] at hc); (try simp only [hc]); (try simp only [hcl] at hc); try omega))
    have hp := digs_pos (n := m) (by omega)
    refine lp_next hI (m / 256) (by omega) ⟨m / 256, [UInt8.ofNat (m % 256)] ++ d, rfl, by omega, by rw [← hD, hp]; simp, ?_, ?_, st.trans s1⟩
    · simp (disch := first | omega | (simp only [lnv]; omega)) only [wlk, ↓get_put', ↓reduceIte, seval]
    · simp (disch := first | omega | (simp only [lnv]; omega)) only [wlk, ↓get_put', ↓reduceIte, seval]; rfl
  · have hm : m = 0 := by omega
    subst hm
    rw [digs_zero, List.nil_append] at hD
    refine AL.str (bs := [UInt8.ofNat d.length]) (by rw [bv_i (by omega) (by omega)]; rfl) (by simp) rfl rfl (by simp) hfg fun h' u s1 => ?_
    repeat' (first
      | refine St.h ?_
      | simp (disch := first | omega | (simp only [lnv]; omega)) only [wlk, ↓get_put', ↓reduceIte, seval, f3, f4]
      | (with_reducible (first | apply cd_split | apply gd_split)) <;> (intro hc; (try simp only [hcn] at hc); (try simp only [hc]); (try simp only [hcl] at hc); try omega))
    subst hQ
    exact ⟨by unfold numB; rw [← hD]; rfl, st.trans s1⟩
theorem rtakeNum_ok {h : H} {l : List UInt8} (hl : l.length ≤ 1000000) : FnOk Try.prog 34 [sv l] h fun y h' => y = tri (takeN l) ∧ h' = h := by
  refine fn_go c34 (by intro hb; cases hb) (by simp) (by simp) fun Q hQ => ?_
  simp only [slotsF, Nat.reduceAdd]
  cases l with
  | nil =>
    repeat' (first
      | refine St.h ?_
      | simp (disch := first | omega | (simp only [lnv]; omega)) only [wlk, ↓get_put', ↓reduceIte, seval, hQ, List.length_nil]
      | (with_reducible (first | apply cd_split | apply gd_split)) <;> (intro hc; (try simp only [hcn] at hc); (try simp only [hc]); (try simp only [hcl] at hc); try omega))
    exact ⟨rfl, trivial⟩
  | cons w r =>
  have hlen : (w :: r).length = r.length + 1 := rfl
  have hw := w.toNat_lt
  have hgd : (w :: r).getD 0 0 = w := rfl
  have hgd1 : (w :: r).getD 1 0 = r.getD 0 0 := rfl
  have hc1 := (r.getD 0 0).toNat_lt
  have key : w.toNat ≤ 8 → w.toNat ≤ r.length → ¬ badD (r.take w.toNat) → ∀ t, get 0 t = sv (w :: r) → get 5 t = .i .i64 (w.toNat : Int) → get 6 t = .i .i64 0 → get 7 t = .i .i64 1 → Ok Try.prog 52 (.loop l34_0) t h fun x t' h' => x = .exit 0 ∧ h' = h ∧ get 5 t' = .i .i64 (w.toNat : Int) ∧ get 6 t' = .i .i64 ((pk (r.take w.toNat) : Nat) : Int) := by
    intro hw8 hwr hb t g0 g5 g6 g7
    have hv : pk (r.take w.toNat) ≤ 9223372036854775807 := by
      rcases Nat.lt_or_ge (pk (r.take w.toNat)) 9223372036854775808 with h1 | h1
      · omega
      · exact absurd (.inr h1) hb
    have mono : ∀ i, i ≤ w.toNat → pk (r.take i) ≤ pk (r.take w.toNat) := fun i hi => by
      have e : r.take w.toNat = r.take i ++ (r.take w.toNat).drop i := by
        conv => lhs; rw [← List.take_append_drop i (r.take w.toNat)]
        rw [List.take_take, Nat.min_eq_left hi]
      rw [e, pk_append]
      have : 1 ≤ 256 ^ ((r.take w.toNat).drop i).length := Nat.pow_pos (by omega)
      have := Nat.mul_le_mul_left (pk (r.take i)) this
      omega
    refine Ok.lp (fun m t g => ∃ i : Nat, i ≤ w.toNat ∧ m = w.toNat - i ∧ g = h ∧ get 0 t = sv (w :: r) ∧ get 5 t = .i .i64 (w.toNat : Int) ∧ get 6 t = .i .i64 ((pk (r.take i) : Nat) : Int) ∧ get 7 t = .i .i64 ((i : Int) + 1)) w.toNat ?_ ?_
    · exact ⟨0, by omega, rfl, rfl, g0, g5, g6, g7⟩
    rintro I hI m t g ⟨i, hi, rfl, rfl, f0, f5, f6, f7⟩
    have hii : (w :: r).getD ((i : Int) + 1).toNat 0 = r.getD i 0 := by rw [show ((i : Int) + 1).toNat = i + 1 by omega]; rfl
    have hci := (r.getD i 0).toNat_lt
    have ep : i < w.toNat → ((pk (r.take i) : Nat) : Int) * 256 + ((r.getD i 0).toNat : Int) = ((pk (r.take (i + 1)) : Nat) : Int) := fun h => by rw [pk_take (by omega)]; omega
    have hp : i < w.toNat → pk (r.take i) * 256 + (r.getD i 0).toNat ≤ 9223372036854775807 := fun h => by
      have := mono (i + 1) (by omega)
      rw [pk_take (by omega)] at this; omega
    by_cases hiw : i < w.toNat
    · have hp := hp hiw
      have ep := ep hiw
      clear hv mono
      repeat' (first
        | refine St.h ?_
        | simp (disch := first | omega | (simp only [lnv]; omega)) only [wlk, ↓get_put', ↓reduceIte, seval, f0, f5, f6, f7, hii]
        | (with_reducible (first | apply cd_split | apply gd_split)) <;> (intro hc; (try simp only [hcn] at hc); (try simp only [hc]); (try simp only [hcl] at hc); try omega))
      refine lp_next hI (w.toNat - (i + 1)) (by omega) ⟨i + 1, by omega, rfl, rfl, ?_, ?_, ?_, ?_⟩
      · simp (disch := first | omega | (simp only [lnv]; omega)) only [wlk, ↓get_put', ↓reduceIte, seval, f0]
      · simp (disch := first | omega | (simp only [lnv]; omega)) only [wlk, ↓get_put', ↓reduceIte, seval, f5]
      · simp (disch := first | omega | (simp only [lnv]; omega)) only [wlk, ↓get_put', ↓reduceIte, seval, ep]
      · simp (disch := first | omega | (simp only [lnv]; omega)) only [wlk, ↓get_put', ↓reduceIte, seval]; try rfl
    · obtain rfl : i = w.toNat := by omega
      repeat' (first
        | refine St.h ?_
        | simp (disch := first | omega | (simp only [lnv]; omega)) only [wlk, ↓get_put', ↓reduceIte, seval, f0, f5, f6, f7]
        | (with_reducible (first | apply cd_split | apply gd_split)) <;> (intro hc; (try simp only [hcn] at hc); (try simp only [hc]); (try simp only [hcl] at hc); try omega))
  have wrong : w.toNat ≤ 8 → w.toNat ≤ r.length → badD (r.take w.toNat) → tri (0, 0, 10) = tri (takeN (w :: r)) := fun h1 h2 hb => by rw [takeN_bad (by omega) (by omega) hb]
  have right : w.toNat ≤ 8 → w.toNat ≤ r.length → ¬ badD (r.take w.toNat) → .tu [.i .i64 ((pk (r.take w.toNat) : Nat) : Int), .i .i64 ((w.toNat : Int) + 1), .i .i64 0] = tri (takeN (w :: r)) := fun h1 h2 hb => by rw [takeN_ok (by omega) (by omega) hb]; rfl
  have hbad := fun h1 h2 => badD_iff (r := r) (k := w.toNat) h1 h2
  repeat' (first
    | refine St.h ?_
    | simp (disch := first | omega | (simp only [lnv]; omega)) only [wlk, ↓get_put', ↓reduceIte, seval, hgd, hgd1]
    | (with_reducible (first | apply cd_split | apply gd_split)) <;> (intro hc; (try simp only [hcn] at hc); (try simp only [hc]); (try simp only [hcl] at hc); try omega))
  all_goals subst hQ
  · exact ⟨by rw [takeN_big (by omega)]; rfl, rfl⟩
  · exact ⟨by rw [takeN_short (by omega) (by omega)]; rfl, rfl⟩
  · exact ⟨wrong (by omega) (by omega) ((hbad (by omega) (by omega)).2 (.inl ⟨by omega, by omega⟩)), rfl⟩
  · exact ⟨wrong (by omega) (by omega) ((hbad (by omega) (by omega)).2 (.inr ⟨by omega, by omega⟩)), rfl⟩
  all_goals
    have nb : ¬ badD (r.take w.toNat) := fun hb => by
      have := (hbad (by omega) (by omega)).1 hb
      omega
    refine (key (by omega) (by omega) nb _ (by simp (disch := first | omega | (simp only [lnv]; omega)) only [wlk, ↓get_put', ↓reduceIte, seval]) (by simp (disch := first | omega | (simp only [lnv]; omega)) only [wlk, ↓get_put', ↓reduceIte, seval]) (by simp (disch := first | omega | (simp only [lnv]; omega)) only [wlk, ↓get_put', ↓reduceIte, seval]) (by simp (disch := first | omega | (simp only [lnv]; omega)) only [wlk, ↓get_put', ↓reduceIte, seval])).mono ?_
    rintro x t' h' ⟨rfl, rfl, g5, g6⟩
    repeat' (first
      | refine St.h ?_
      | simp (disch := first | omega | (simp only [lnv]; omega)) only [wlk, ↓get_put', ↓reduceIte, seval, g5, g6]
      | (with_reducible (first | apply cd_split | apply gd_split)) <;> (intro hc; (try simp only [hcn] at hc); (try simp only [hc]); (try simp only [hcl] at hc); try omega))
    exact ⟨right (by omega) (by omega) nb, by trivial⟩
end Go.Proofs.Ythncpgkpkdolfaa

set_option maxRecDepth 100000
set_option maxHeartbeats 8000000
set_option linter.all false
namespace Go.Proofs.Ythncpgkpkdolfaa
open Go Go.Ev
theorem text_ok {h : H} {l : List UInt8} (hl : l.length ≤ 1000000) (hf : B.val h.floor ≤ B.val h.next) : FnOk Try.prog 43 [sv l] h fun y h' => y = sv (textB l) ∧ Stay nowhere h h' := by
  refine fn_go c43 (by intro hb; cases hb) (by simp) (by simp) fun Q hQ => ?_
  simp only [slotsF, Nat.reduceAdd]
  have h9 := numB_len (n := l.length) (by omega)
  repeat' (first
    | refine St.h ?_
    | simp (disch := first | omega | (simp only [lnv]; omega)) only [wlk, ↓get_put', ↓reduceIte, seval]
    | (with_reducible (first | apply cd_split | apply gd_split)) <;> (intro hc; (try simp only [hcn] at hc); (try simp only [hc]); (try simp only [hcl] at hc); try omega))
  refine CL.stay (num_ok (by omega) hf) fun h1 s1 => ?_
  repeat' (first
    | refine St.h ?_
    | simp (disch := first | omega | (simp only [lnv]; omega)) only [wlk, ↓get_put', ↓reduceIte, seval]
    | (with_reducible (first | apply cd_split | apply gd_split)) <;> (intro hc; (try simp only [hcn] at hc); (try simp only [hc]); (try simp only [hcl] at hc); try omega))
  subst hQ
  exact ⟨rfl, s1⟩
theorem rtext_ok {h : H} {l : List UInt8} (hl : l.length ≤ 1000000) (hf : B.val h.floor ≤ B.val h.next) : FnOk Try.prog 47 [sv l] h fun y h' => y = sv (textB l) ∧ Stay nowhere h h' := by
  refine fn_go c47 (by intro hb; cases hb) (by simp) (by simp) fun Q hQ => ?_
  simp only [slotsF, Nat.reduceAdd]
  have h9 := numB_len (n := l.length) (by omega)
  repeat' (first
    | refine St.h ?_
    | simp (disch := first | omega | (simp only [lnv]; omega)) only [wlk, ↓get_put', ↓reduceIte, seval]
    | (with_reducible (first | apply cd_split | apply gd_split)) <;> (intro hc; (try simp only [hcn] at hc); (try simp only [hc]); (try simp only [hcl] at hc); try omega))
  refine CL.stay (rnum_ok (by omega) hf) fun h1 s1 => ?_
  repeat' (first
    | refine St.h ?_
    | simp (disch := first | omega | (simp only [lnv]; omega)) only [wlk, ↓get_put', ↓reduceIte, seval]
    | (with_reducible (first | apply cd_split | apply gd_split)) <;> (intro hc; (try simp only [hcn] at hc); (try simp only [hc]); (try simp only [hcl] at hc); try omega))
  subst hQ
  exact ⟨rfl, s1⟩
theorem takeText_ok {h : H} {l : List UInt8} (hl : l.length ≤ 1000000) : FnOk Try.prog 56 [sv l] h fun y h' => y = triT (takeT l) ∧ h' = h := by
  refine fn_go c56 (by intro hb; cases hb) (by simp) (by simp) fun Q hQ => ?_
  simp only [slotsF, Nat.reduceAdd]
  repeat' (first
    | refine St.h ?_
    | simp (disch := first | omega | (simp only [lnv]; omega)) only [wlk, ↓get_put', ↓reduceIte, seval]
    | (with_reducible (first | apply cd_split | apply gd_split)) <;> (intro hc; (try simp only [hcn] at hc); (try simp only [hc]); (try simp only [hcl] at hc); try omega))
  refine CL.pure (takeNum_ok hl) ?_
  rcases takeN_range l with (hc | hc) | ⟨n, k, hc, h1, h2, h3, h4⟩
  · have e : takeT l = ([], 0, 10) := by unfold takeT; rw [hc]; rfl
    rw [hc]; unfold tri
    repeat' (first
      | refine St.h ?_
      | simp (disch := first | omega | (simp only [lnv]; omega)) only [wlk, ↓get_put', ↓reduceIte, seval]
      | (with_reducible (first | apply cd_split | apply gd_split)) <;> (intro hc; (try simp only [hcn] at hc); (try simp only [hc]); (try simp only [hcl] at hc); try omega))
    subst hQ
    exact ⟨by rw [e]; rfl, rfl⟩
  · have e : takeT l = ([], 0, 12) := by unfold takeT; rw [hc]; rfl
    rw [hc]; unfold tri
    repeat' (first
      | refine St.h ?_
      | simp (disch := first | omega | (simp only [lnv]; omega)) only [wlk, ↓get_put', ↓reduceIte, seval]
      | (with_reducible (first | apply cd_split | apply gd_split)) <;> (intro hc; (try simp only [hcn] at hc); (try simp only [hc]); (try simp only [hcl] at hc); try omega))
    subst hQ
    exact ⟨by rw [e]; rfl, rfl⟩
  have e : takeT l = if ((l.drop k).length : Int) < (n : Int) then ([], 0, 12) else ((l.drop k).take n, (k : Int) + n, 0) := by
    unfold takeT; rw [hc]; simp only [if_true, Int.toNat_natCast]
  rw [hc]; unfold tri
  have hd : (l.drop k).length = l.length - k := List.length_drop
  repeat' (first
    | refine St.h ?_
    | simp (disch := first | omega | (simp only [lnv]; omega)) only [wlk, ↓get_put', ↓reduceIte, seval, Int.toNat_natCast]
    | (with_reducible (first | apply cd_split | apply gd_split)) <;> (intro hc; (try simp only [hcn] at hc); (try simp only [hc]); (try simp only [hcl] at hc); try omega))
  · rw [if_pos (by omega)] at e
    subst hQ
    exact ⟨by rw [e]; rfl, rfl⟩
  · rw [if_neg (by omega)] at e
    subst hQ
    exact ⟨by rw [e]; rfl, rfl⟩
theorem rtakeText_ok {h : H} {l : List UInt8} (hl : l.length ≤ 1000000) : FnOk Try.prog 50 [sv l] h fun y h' => y = triT (takeT l) ∧ h' = h := by
  refine fn_go c50 (by intro hb; cases hb) (by simp) (by simp) fun Q hQ => ?_
  simp only [slotsF, Nat.reduceAdd]
  repeat' (first
    | refine St.h ?_
    | simp (disch := first | omega | (simp only [lnv]; omega)) only [wlk, ↓get_put', ↓reduceIte, seval]
    | (with_reducible (first | apply cd_split | apply gd_split)) <;> (intro hc; (try simp only [hcn] at hc); (try simp only [hc]); (try simp only [hcl] at hc); try omega))
  refine CL.pure (rtakeNum_ok hl) ?_
  rcases takeN_range l with (hc | hc) | ⟨n, k, hc, h1, h2, h3, h4⟩
  · have e : takeT l = ([], 0, 10) := by unfold takeT; rw [hc]; rfl
    rw [hc]; unfold tri
    repeat' (first
      | refine St.h ?_
      | simp (disch := first | omega | (simp only [lnv]; omega)) only [wlk, ↓get_put', ↓reduceIte, seval]
      | (with_reducible (first | apply cd_split | apply gd_split)) <;> (intro hc; (try simp only [hcn] at hc); (try simp only [hc]); (try simp only [hcl] at hc); try omega))
    subst hQ
    exact ⟨by rw [e]; rfl, rfl⟩
  · have e : takeT l = ([], 0, 12) := by unfold takeT; rw [hc]; rfl
    rw [hc]; unfold tri
    repeat' (first
      | refine St.h ?_
      | simp (disch := first | omega | (simp only [lnv]; omega)) only [wlk, ↓get_put', ↓reduceIte, seval]
      | (with_reducible (first | apply cd_split | apply gd_split)) <;> (intro hc; (try simp only [hcn] at hc); (try simp only [hc]); (try simp only [hcl] at hc); try omega))
    subst hQ
    exact ⟨by rw [e]; rfl, rfl⟩
  have e : takeT l = if ((l.drop k).length : Int) < (n : Int) then ([], 0, 12) else ((l.drop k).take n, (k : Int) + n, 0) := by
    unfold takeT; rw [hc]; simp only [if_true, Int.toNat_natCast]
  rw [hc]; unfold tri
  have hd : (l.drop k).length = l.length - k := List.length_drop
  repeat' (first
    | refine St.h ?_
    | simp (disch := first | omega | (simp only [lnv]; omega)) only [wlk, ↓get_put', ↓reduceIte, seval, Int.toNat_natCast]
    | (with_reducible (first | apply cd_split | apply gd_split)) <;> (intro hc; (try simp only [hcn] at hc); (try simp only [hc]); (try simp only [hcl] at hc); try omega))
  · rw [if_pos (by omega)] at e
    subst hQ
    exact ⟨by rw [e]; rfl, rfl⟩
  · rw [if_neg (by omega)] at e
    subst hQ
    refine ⟨?_, rfl⟩
    rw [e]
    have : (l.take ((k : Int) + n).toNat).drop k = (l.drop k).take n := by
      rw [show ((k : Int) + n).toNat = k + n by omega, List.drop_take]; congr 1; omega
    rw [this]; rfl
theorem takeT_range (l : List UInt8) : (takeT l = ([], 0, 10) ∨ takeT l = ([], 0, 12)) ∨ ∃ (v : List UInt8) (k : Nat), takeT l = (v, (k : Int), 0) ∧ 1 ≤ k ∧ k ≤ l.length ∧ v.length ≤ k := by
  rcases takeN_range l with (hc | hc) | ⟨n, k, hc, h1, h2, h3, h4⟩
  · exact .inl (.inl (by unfold takeT; rw [hc]; rfl))
  · exact .inl (.inr (by unfold takeT; rw [hc]; rfl))
  have e : takeT l = if ((l.drop k).length : Int) < (n : Int) then ([], 0, 12) else ((l.drop k).take n, (k : Int) + n, 0) := by
    unfold takeT; rw [hc]; simp only [if_true, Int.toNat_natCast]
  have hd : (l.drop k).length = l.length - k := List.length_drop
  by_cases hn : ((l.drop k).length : Int) < (n : Int)
  · rw [if_pos hn] at e; exact .inl (.inr e)
  · rw [if_neg hn] at e
    exact .inr ⟨_, k + n, by rw [e]; rfl, by omega, by omega, by rw [List.length_take]; omega⟩
end Go.Proofs.Ythncpgkpkdolfaa

set_option maxRecDepth 100000
set_option maxHeartbeats 8000000
set_option linter.all false
namespace Go.Proofs.Ythncpgkpkdolfaa
open Go Go.Ev
theorem isWrite_ok {h : H} {k v : List UInt8} {d : Bool} (hf : B.val h.floor ≤ B.val h.next) : FnOk Try.prog 36 [.a [sv k, .b d, sv v]] h fun y h' => y = .b (isW k d v) ∧ Stay nowhere h h' := by
  refine fn_go c36 (by intro hb; cases hb) (by simp) (by simp) fun Q hQ => ?_
  simp only [slotsF, Nat.reduceAdd]
  repeat' (first
    | refine St.h ?_
    | simp (disch := first | omega | (simp only [lnv]; omega)) only [wlk, ↓get_put', ↓reduceIte, seval]
    | (with_reducible (first | apply cd_split | apply gd_split)) <;> (intro hc; (try simp only [hcn] at hc); (try simp only [hc]); (try simp only [hcl] at hc); try omega))
  refine AL.own (by simp) hf fun h1 s1 n1 o1 => ?_
  repeat' (first
    | refine St.h ?_
    | simp (disch := first | omega | (simp only [lnv]; omega)) only [wlk, ↓get_put', ↓reduceIte, seval, o1.row.l1]
    | (with_reducible (first | apply cd_split | apply gd_split)) <;> (intro hc; (try simp only [hcn] at hc); (try simp only [hc]); (try simp only [hcl] at hc); try omega))
  all_goals (subst hQ; refine ⟨?_, s1⟩; congr 1; symm; first | exact isW_lo (by assumption) | exact isW_hi (by assumption) | exact isW_t (by assumption) (by assumption) (by assumption) | exact isW_f (by assumption) (by assumption) (by assumption))
theorem risWrite_ok {h : H} {k v : List UInt8} {d : Bool} (hf : B.val h.floor ≤ B.val h.next) : FnOk Try.prog 37 [.a [sv k, .b d, sv v]] h fun y h' => y = .b (isW k d v) ∧ Stay nowhere h h' := by
  refine fn_go c37 (by intro hb; cases hb) (by simp) (by simp) fun Q hQ => ?_
  simp only [slotsF, Nat.reduceAdd]
  repeat' (first
    | refine St.h ?_
    | simp (disch := first | omega | (simp only [lnv]; omega)) only [wlk, ↓get_put', ↓reduceIte, seval]
    | (with_reducible (first | apply cd_split | apply gd_split)) <;> (intro hc; (try simp only [hcn] at hc); (try simp only [hc]); (try simp only [hcl] at hc); try omega))
  refine AL.own (by simp) hf fun h1 s1 n1 o1 => ?_
  repeat' (first
    | refine St.h ?_
    | simp (disch := first | omega | (simp only [lnv]; omega)) only [wlk, ↓get_put', ↓reduceIte, seval, o1.row.l1]
    | (with_reducible (first | apply cd_split | apply gd_split)) <;> (intro hc; (try simp only [hcn] at hc); (try simp only [hc]); (try simp only [hcl] at hc); try omega))
  all_goals (subst hQ; refine ⟨?_, s1⟩; congr 1; symm; first | exact isW_lo (by assumption) | exact isW_hi (by assumption) | exact isW_big (by assumption) | exact isW_t (by assumption) (by assumption) (by assumption) | (rw [isW_f (by assumption) (by assumption) (by assumption)]; exact decide_eq_true (by assumption)))
end Go.Proofs.Ythncpgkpkdolfaa

set_option maxRecDepth 100000
set_option maxHeartbeats 8000000
set_option linter.all false
namespace Go.Proofs.Ythncpgkpkdolfaa
open Go Go.Ev
/-- a block, as it lies -/
structure Bk where
  v : V
  l : List Ent
instance : Inhabited Bk := ⟨⟨.l0, []⟩⟩
def bkC (b : Bk) : List V := [b.v]
theorem bkC_len (b : Bk) : (bkC b).length = 1 := rfl
/-- blocks, as they lie -/
structure Bls (h : H) (v : V) (bs : List (List Ent)) (ks : List Bk) : Prop where
  ss : Ss 1 bkC h v ks
  eq : ks.map (·.l) = bs
  es : ∀ k ∈ ks, Es h k.v k.l
section
variable {P : Program} {h h' g' : H} {N : Nx} {v : V} {bs : List (List Ent)} {ks : List Bk} {i : Nat}
theorem Bls.len (a : Bls h v bs ks) : ks.length = bs.length := by rw [← a.eq, List.length_map]
theorem Bls.ln (a : Bls h v bs ks) : H1 P gLen v g' N = N.go P (.i .i64 (bs.length : Int)) g' := by rw [← a.len]; exact a.ss.ln
theorem Bls.ix (a : Bls h v bs ks) (hi : i < bs.length) : IX P 1 v i g' N = N.go P (.p (lid v) (lg v) (loff v + i) (lfin v)) g' := by
  have := a.ss.ix (P := P) (g' := g') (N := N) (i := i) (by rw [a.len]; exact hi)
  rwa [Nat.mul_one] at this
theorem Bls.ld (a : Bls h v bs ks) (hi : i < bs.length) : L1 P (lid v) (lg v) (loff v + i) (lfin v) h N = N.go P (ks.getD i default).v h := by
  have := a.ss.ld (P := P) (N := N) (i := i) (d := 0) bkC_len (by rw [a.len]; exact hi) (by omega)
  rwa [Nat.mul_one] at this
theorem Bls.grow (a : Bls h v bs ks) (s : Stay nowhere h h') : Bls h' v bs ks := ⟨a.ss.grow s, a.eq, fun k hk => (a.es k hk).grow s⟩
theorem Bls.at (a : Bls h v bs ks) (hi : i < bs.length) : Es h (ks.getD i default).v (bs.getD i []) := by
  have hk : i < ks.length := by rw [a.len]; exact hi
  have h1 := a.es (ks.getD i default) (by rw [List.getD_eq_getElem?_getD, List.getElem?_eq_getElem hk]; simp)
  have h2 : bs.getD i [] = (ks.getD i default).l := by rw [← a.eq]; simp [List.getD, List.getElem?_eq_getElem hk]
  rw [h2]; exact h1
end
end Go.Proofs.Ythncpgkpkdolfaa

set_option maxRecDepth 1000000
set_option linter.all false
namespace Go.Proofs.Ythncpgkpkdolfaa
open Go Go.Ev
noncomputable abbrev s54_0 : CC := (CC.cond (tm 9) CC.skip (CC.exit 0))
noncomputable abbrev s54_1 : CC := (CC.region [(wB 18 (doMove (tm 4))), (wB 19 (doMove (tm 3))), (wB 20 (bin2 fAdd (tm 18) (tm 19))), (wB 21 (doRem (tm 20) (O.c (V.i IntKind.u32 (Int.ofNat 65521))))), (wB 4 (doMove (tm 21)))])
noncomputable abbrev s54_2 : CC := (CC.seq (CC.region [(wB 11 (doMove (tm 3))), (wB 12 (doMove (tm 0))), (wB 13 (doMove (tm 5))), (wB 14 (doSIndex (tm 12) (tm 13))), (wB 15 (doConv IntKind.u32 (tm 14))), (wB 16 (bin2 fAdd (tm 11) (tm 15))), (wB 17 (doRem (tm 16) (O.c (V.i IntKind.u32 (Int.ofNat 65521))))), (wB 3 (doMove (tm 17)))]) s54_1)
noncomputable abbrev s54_3 : CC := (CC.seq (CC.region [(wB 10 (doMove (tm 8))), (wB 5 (doMove (tm 10)))]) s54_2)
noncomputable abbrev s54_4 : CC := (CC.block 1 s54_3)
noncomputable abbrev s54_5 : CC := (CC.region [(wB 22 (bin2 fAdd (tm 8) (oN 1))), (wB 8 (doMove (tm 22)))])
noncomputable abbrev s54_6 : CC := (CC.seq s54_4 s54_5)
noncomputable abbrev s54_7 : CC := (CC.seq s54_0 s54_6)
noncomputable abbrev l54_0 : CC := (CC.seq (CC.region [(wB 9 (bin2 fLss (tm 8) (tm 7)))]) s54_7)
noncomputable abbrev s54_8 : CC := (CC.loop l54_0)
noncomputable abbrev s54_9 : CC := (CC.block 0 s54_8)
noncomputable abbrev s54_10 : CC := (CC.seq (CC.region [(wB 6 (doMove (tm 0))), (wB 7 (doLenS (tm 6))), (wB 8 (doMove (oN 0)))]) s54_9)
noncomputable abbrev s54_11 : CC := (CC.seq (CC.region [(wB 23 (doMove (tm 4))), (wB 24 (doShift shlF (tm 23) (O.c (V.i IntKind.u64 (Int.ofNat 16))))), (wB 25 (doMove (tm 3))), (wB 26 (bin2 fOr (tm 24) (tm 25))), (wB 2 (doMove (tm 26)))]) CC.ret)
noncomputable abbrev s54_12 : CC := (CC.seq s54_10 s54_11)
noncomputable abbrev s54_13 : CC := (CC.seq (CC.region [(wB 3 (doMove (O.c (V.i IntKind.u32 (Int.ofNat 1))))), (wB 4 (doMove (O.c (V.i IntKind.u32 (Int.ofNat 0)))))]) s54_12)
noncomputable abbrev b54 : CC := (CC.seq (CC.region [(wB 2 (doMove (O.c (V.i IntKind.u32 (Int.ofNat 0)))))]) s54_13)
theorem c54 : compFn Try.prog 54 = ⟨27, b54, [(Rs.tmp (slOf 2))]⟩ := by kernel_rfl
noncomputable abbrev s44_0 : CC := (CC.seq (CC.region [(wB 6 (doMove (tm 3))), (wB 7 (doShift shrF (tm 6) (O.c (V.i IntKind.u64 (Int.ofNat 24))))), (wB 8 (doConv IntKind.u8 (tm 7))), (wB 9 (doMove (tm 3))), (wB 10 (doShift shrF (tm 9) (O.c (V.i IntKind.u64 (Int.ofNat 16))))), (wB 11 (doConv IntKind.u8 (tm 10))), (wB 12 (doMove (tm 3))), (wB 13 (doShift shrF (tm 12) (O.c (V.i IntKind.u64 (Int.ofNat 8))))), (wB 14 (doConv IntKind.u8 (tm 13))), (wB 15 (doMove (tm 3))), (wB 16 (doConv IntKind.u8 (tm 15))), (wB 17 (doBuildSlice 5 4 [(V.i IntKind.u8 (Int.ofNat 0)), (V.i IntKind.u8 (Int.ofNat 0)), (V.i IntKind.u8 (Int.ofNat 0)), (V.i IntKind.u8 (Int.ofNat 0))] [(Pt.mk 0 1 (tm 8)), (Pt.mk 1 1 (tm 11)), (Pt.mk 2 1 (tm 14)), (Pt.mk 3 1 (tm 16))])), (wB 18 (doB2S (tm 17))), (wB 2 (doMove (tm 18)))]) CC.ret)
noncomputable abbrev s44_1 : CC := (CC.seq (CC.region [(wB 4 (doMove (tm 0))), (wB 5 (doCall 54 [(tm 4)])), (wB 3 (doMove (tm 5)))]) s44_0)
noncomputable abbrev b44 : CC := (CC.seq (CC.region [(wB 2 (doMove (O.c (V.s 0 0))))]) s44_1)
theorem c44 : compFn Try.prog 44 = ⟨19, b44, [(Rs.tmp (slOf 2))]⟩ := by kernel_rfl
noncomputable abbrev s26_0 : CC := (CC.seq (CC.region [(wB 3 (doMove (tm 0))), (wB 4 (doLenS (tm 3))), (wB 5 (doCall 24 [(tm 4)])), (wB 6 (doMove (tm 0))), (wB 7 (doCall 44 [(tm 6)])), (wB 8 (doConcat (tm 5) (tm 7))), (wB 9 (doMove (tm 0))), (wB 10 (doConcat (tm 8) (tm 9))), (wB 2 (doMove (tm 10)))]) CC.ret)
noncomputable abbrev b26 : CC := (CC.seq (CC.region [(wB 2 (doMove (O.c (V.s 0 0))))]) s26_0)
theorem c26 : compFn Try.prog 26 = ⟨11, b26, [(Rs.tmp (slOf 2))]⟩ := by kernel_rfl
noncomputable abbrev s31_0 : CC := (CC.seq (CC.region [(wB 2 (doMove (O.c (V.s 0 0)))), (wB 3 (doMove (oN 0))), (wB 4 (doMove (oN 12)))]) CC.ret)
noncomputable abbrev s31_1 : CC := (CC.seq (CC.region [(wB 2 (doMove (O.c (V.s 0 0)))), (wB 3 (doMove (oN 0))), (wB 4 (doMove (oN 13)))]) CC.ret)
noncomputable abbrev s31_2 : CC := (CC.cond (tm 20) s31_0 s31_1)
noncomputable abbrev s31_3 : CC := (CC.seq (CC.region [(wB 21 (bin2 fEql (tm 17) (oN 12))), (wB 20 (doMove (tm 21)))]) s31_2)
noncomputable abbrev s31_4 : CC := (CC.cond (tm 18) CC.skip s31_3)
noncomputable abbrev s31_5 : CC := (CC.seq (CC.region [(wB 19 (bin2 fEql (tm 17) (oN 0))), (wB 18 (doMove (tm 19)))]) s31_4)
noncomputable abbrev s31_6 : CC := (CC.block 0 s31_5)
noncomputable abbrev s31_7 : CC := (CC.seq (CC.region [(wB 17 (doMove (tm 7)))]) s31_6)
noncomputable abbrev s31_8 : CC := (CC.seq (CC.region [(wB 2 (doMove (O.c (V.s 0 0)))), (wB 3 (doMove (oN 0))), (wB 4 (doMove (oN 12)))]) CC.ret)
noncomputable abbrev s31_9 : CC := (CC.cond (tm 29) s31_8 CC.skip)
noncomputable abbrev s31_10 : CC := (CC.seq (CC.region [(wB 25 (doMove (tm 5))), (wB 26 (doMove (tm 8))), (wB 27 (doLenS (tm 26))), (wB 28 (bin2 fSub (tm 27) (oN 4))), (wB 29 (bin2 fGtr (tm 25) (tm 28)))]) s31_9)
noncomputable abbrev s31_11 : CC := (CC.seq (CC.region [(wB 2 (doMove (O.c (V.s 0 0)))), (wB 3 (doMove (oN 0))), (wB 4 (doMove (oN 13)))]) CC.ret)
noncomputable abbrev s31_12 : CC := (CC.cond (tm 39) s31_11 CC.skip)
noncomputable abbrev s31_13 : CC := (CC.seq (CC.region [(wB 36 (doMove (tm 9))), (wB 37 (doMove (tm 10))), (wB 38 (doCall 44 [(tm 37)])), (wB 39 (doSCmp (fun a b c d => !eqS a b c d) (tm 36) (tm 38)))]) s31_12)
noncomputable abbrev s31_14 : CC := (CC.seq (CC.region [(wB 40 (doMove (tm 10))), (wB 41 (doMove (tm 6))), (wB 42 (bin2 fAdd (tm 41) (oN 4))), (wB 43 (doMove (tm 5))), (wB 44 (bin2 fAdd (tm 42) (tm 43))), (wB 2 (doMove (tm 40))), (wB 3 (doMove (tm 44))), (wB 4 (doMove (oN 0)))]) CC.ret)
noncomputable abbrev s31_15 : CC := (CC.seq s31_13 s31_14)
noncomputable abbrev s31_16 : CC := (CC.seq (CC.draws [(uB 30 (doMove (tm 8))), (uB 31 (doSSlice (tm 30) none (some (oN 4)))), (uB 32 (doMove (tm 8))), (uB 33 (doMove (tm 5))), (uB 34 (bin2 fAdd (oN 4) (tm 33))), (uB 35 (doSSlice (tm 32) (some (oN 4)) (some (tm 34)))), (uB 9 (doMove (tm 31))), (uB 10 (doMove (tm 35)))]) s31_15)
noncomputable abbrev s31_17 : CC := (CC.seq s31_10 s31_16)
noncomputable abbrev s31_18 : CC := (CC.seq (CC.region [(wB 22 (doMove (tm 0))), (wB 23 (doMove (tm 6))), (wB 24 (doSSlice (tm 22) (some (tm 23)) none)), (wB 8 (doMove (tm 24)))]) s31_17)
noncomputable abbrev s31_19 : CC := (CC.seq s31_7 s31_18)
noncomputable abbrev s31_20 : CC := (CC.seq (CC.region [(wB 12 (doMove (tm 0))), (wB 13 (doCall 48 [(tm 12)])), (wB 11 (doMove (tm 13))), (wB 14 (doExtract 0 (tm 11))), (wB 15 (doExtract 1 (tm 11))), (wB 16 (doExtract 2 (tm 11))), (wB 5 (doMove (tm 14))), (wB 6 (doMove (tm 15))), (wB 7 (doMove (tm 16)))]) s31_19)
noncomputable abbrev b31 : CC := (CC.seq (CC.region [(wB 2 (doMove (O.c (V.s 0 0)))), (wB 3 (doMove (oN 0))), (wB 4 (doMove (oN 0)))]) s31_20)
theorem c31 : compFn Try.prog 31 = ⟨45, b31, [(Rs.tmp (slOf 2)), (Rs.tmp (slOf 3)), (Rs.tmp (slOf 4))]⟩ := by kernel_rfl
noncomputable abbrev s46_0 : CC := (CC.cond (tm 9) CC.skip (CC.exit 0))
noncomputable abbrev s46_1 : CC := (CC.seq (CC.region [(wB 6 (doMove (tm 5))), (wB 7 (doMove (tm 0))), (wB 8 (doLenS (tm 7))), (wB 9 (bin2 fLss (tm 6) (tm 8)))]) s46_0)
noncomputable abbrev s46_2 : CC := (CC.region [(wB 19 (doMove (tm 4))), (wB 20 (doMove (tm 3))), (wB 21 (bin2 fAdd (tm 19) (tm 20))), (wB 22 (doRem (tm 21) (O.c (V.i IntKind.u32 (Int.ofNat 65521))))), (wB 4 (doMove (tm 22)))])
noncomputable abbrev s46_3 : CC := (CC.seq (CC.region [(wB 12 (doMove (tm 3))), (wB 13 (doMove (tm 0))), (wB 14 (doMove (tm 5))), (wB 15 (doSIndex (tm 13) (tm 14))), (wB 16 (doConv IntKind.u32 (tm 15))), (wB 17 (bin2 fAdd (tm 12) (tm 16))), (wB 18 (doRem (tm 17) (O.c (V.i IntKind.u32 (Int.ofNat 65521))))), (wB 3 (doMove (tm 18)))]) s46_2)
noncomputable abbrev s46_4 : CC := (CC.block 1 s46_3)
noncomputable abbrev s46_5 : CC := (CC.region [(wB 10 (doMove (tm 5))), (wB 11 (bin2 fAdd (tm 10) (oN 1))), (wB 5 (doMove (tm 11)))])
noncomputable abbrev s46_6 : CC := (CC.seq s46_4 s46_5)
noncomputable abbrev l46_0 : CC := (CC.seq s46_1 s46_6)
noncomputable abbrev s46_7 : CC := (CC.loop l46_0)
noncomputable abbrev s46_8 : CC := (CC.block 0 s46_7)
noncomputable abbrev s46_9 : CC := (CC.seq (CC.region [(wB 5 (doMove (oN 0)))]) s46_8)
noncomputable abbrev s46_10 : CC := (CC.seq (CC.region [(wB 23 (doMove (tm 4))), (wB 24 (bin2 fMul (tm 23) (O.c (V.i IntKind.u32 (Int.ofNat 65536))))), (wB 25 (doMove (tm 3))), (wB 26 (bin2 fAdd (tm 24) (tm 25))), (wB 2 (doMove (tm 26)))]) CC.ret)
noncomputable abbrev s46_11 : CC := (CC.seq s46_9 s46_10)
noncomputable abbrev s46_12 : CC := (CC.seq (CC.region [(wB 3 (doMove (O.c (V.i IntKind.u32 (Int.ofNat 1))))), (wB 4 (doMove (O.c (V.i IntKind.u32 (Int.ofNat 0)))))]) s46_11)
noncomputable abbrev b46 : CC := (CC.seq (CC.region [(wB 2 (doMove (O.c (V.i IntKind.u32 (Int.ofNat 0)))))]) s46_12)
theorem c46 : compFn Try.prog 46 = ⟨27, b46, [(Rs.tmp (slOf 2))]⟩ := by kernel_rfl
noncomputable abbrev s45_0 : CC := (CC.seq (CC.region [(wB 3 (doMove (tm 0))), (wB 4 (doShift shrF (tm 3) (O.c (V.i IntKind.u64 (Int.ofNat 24))))), (wB 5 (doConv IntKind.u8 (tm 4))), (wB 6 (doMove (tm 0))), (wB 7 (doShift shrF (tm 6) (O.c (V.i IntKind.u64 (Int.ofNat 16))))), (wB 8 (doConv IntKind.u8 (tm 7))), (wB 9 (doMove (tm 0))), (wB 10 (doShift shrF (tm 9) (O.c (V.i IntKind.u64 (Int.ofNat 8))))), (wB 11 (doConv IntKind.u8 (tm 10))), (wB 12 (doMove (tm 0))), (wB 13 (doConv IntKind.u8 (tm 12))), (wB 14 (doBuildSlice 5 4 [(V.i IntKind.u8 (Int.ofNat 0)), (V.i IntKind.u8 (Int.ofNat 0)), (V.i IntKind.u8 (Int.ofNat 0)), (V.i IntKind.u8 (Int.ofNat 0))] [(Pt.mk 0 1 (tm 5)), (Pt.mk 1 1 (tm 8)), (Pt.mk 2 1 (tm 11)), (Pt.mk 3 1 (tm 13))])), (wB 15 (doB2S (tm 14))), (wB 2 (doMove (tm 15)))]) CC.ret)
noncomputable abbrev b45 : CC := (CC.seq (CC.region [(wB 2 (doMove (O.c (V.s 0 0))))]) s45_0)
theorem c45 : compFn Try.prog 45 = ⟨16, b45, [(Rs.tmp (slOf 2))]⟩ := by kernel_rfl
noncomputable abbrev s28_0 : CC := (CC.seq (CC.region [(wB 3 (doMove (tm 0))), (wB 4 (doLenS (tm 3))), (wB 5 (doCall 29 [(tm 4)])), (wB 6 (doMove (tm 0))), (wB 7 (doCall 46 [(tm 6)])), (wB 8 (doCall 45 [(tm 7)])), (wB 9 (doConcat (tm 5) (tm 8))), (wB 10 (doMove (tm 0))), (wB 11 (doConcat (tm 9) (tm 10))), (wB 2 (doMove (tm 11)))]) CC.ret)
noncomputable abbrev b28 : CC := (CC.seq (CC.region [(wB 2 (doMove (O.c (V.s 0 0))))]) s28_0)
theorem c28 : compFn Try.prog 28 = ⟨12, b28, [(Rs.tmp (slOf 2))]⟩ := by kernel_rfl
noncomputable abbrev s33_0 : CC := (CC.seq (CC.region [(wB 2 (doMove (O.c (V.s 0 0)))), (wB 3 (doMove (oN 0))), (wB 4 (doMove (oN 12)))]) CC.ret)
noncomputable abbrev s33_1 : CC := (CC.cond (tm 16) s33_0 CC.skip)
noncomputable abbrev s33_2 : CC := (CC.seq (CC.region [(wB 15 (doMove (tm 7))), (wB 16 (bin2 fEql (tm 15) (oN 12)))]) s33_1)
noncomputable abbrev s33_3 : CC := (CC.seq (CC.region [(wB 2 (doMove (O.c (V.s 0 0)))), (wB 3 (doMove (oN 0))), (wB 4 (doMove (oN 13)))]) CC.ret)
noncomputable abbrev s33_4 : CC := (CC.cond (tm 18) s33_3 CC.skip)
noncomputable abbrev s33_5 : CC := (CC.seq (CC.region [(wB 17 (doMove (tm 7))), (wB 18 (bin2 fNeq (tm 17) (oN 0)))]) s33_4)
noncomputable abbrev s33_6 : CC := (CC.seq (CC.region [(wB 2 (doMove (O.c (V.s 0 0)))), (wB 3 (doMove (oN 0))), (wB 4 (doMove (oN 12)))]) CC.ret)
noncomputable abbrev s33_7 : CC := (CC.cond (tm 32) s33_6 CC.skip)
noncomputable abbrev s33_8 : CC := (CC.seq (CC.region [(wB 19 (doMove (tm 0))), (wB 20 (doLenS (tm 19))), (wB 21 (doMove (tm 6))), (wB 22 (bin2 fSub (tm 20) (tm 21))), (wB 23 (bin2 fLss (tm 22) (oN 4))), (wB 24 (doMove (tm 23))), (wG 24 false 25 (doMove (tm 5))), (wG 24 false 26 (doMove (tm 0))), (wG 24 false 27 (doLenS (tm 26))), (wG 24 false 28 (doMove (tm 6))), (wG 24 false 29 (bin2 fSub (tm 27) (tm 28))), (wG 24 false 30 (bin2 fSub (tm 29) (oN 4))), (wG 24 false 31 (bin2 fGtr (tm 25) (tm 30))), (wB 32 (doPick (tm 24) (O.c (V.b Bool.true)) (tm 31)))]) s33_7)
noncomputable abbrev s33_9 : CC := (CC.seq (CC.region [(wB 2 (doMove (O.c (V.s 0 0)))), (wB 3 (doMove (oN 0))), (wB 4 (doMove (oN 13)))]) CC.ret)
noncomputable abbrev s33_10 : CC := (CC.cond (tm 49) s33_9 CC.skip)
noncomputable abbrev s33_11 : CC := (CC.seq (CC.draws [(uB 41 (doMove (tm 8))), (wB 42 (doCall 46 [(tm 41)])), (wB 43 (doCall 45 [(tm 42)])), (uB 44 (doMove (tm 0))), (uB 45 (doMove (tm 6))), (uB 46 (doMove (tm 6))), (uB 47 (bin2 fAdd (tm 46) (oN 4))), (uB 48 (doSSlice (tm 44) (some (tm 45)) (some (tm 47)))), (uB 49 (doSCmp (fun a b c d => !eqS a b c d) (tm 43) (tm 48)))]) s33_10)
noncomputable abbrev s33_12 : CC := (CC.seq (CC.region [(wB 50 (doMove (tm 8))), (wB 51 (doMove (tm 6))), (wB 52 (bin2 fAdd (tm 51) (oN 4))), (wB 53 (doMove (tm 5))), (wB 54 (bin2 fAdd (tm 52) (tm 53))), (wB 2 (doMove (tm 50))), (wB 3 (doMove (tm 54))), (wB 4 (doMove (oN 0)))]) CC.ret)
noncomputable abbrev s33_13 : CC := (CC.seq s33_11 s33_12)
noncomputable abbrev s33_14 : CC := (CC.seq (CC.region [(wB 33 (doMove (tm 0))), (wB 34 (doMove (tm 6))), (wB 35 (bin2 fAdd (tm 34) (oN 4))), (wB 36 (doMove (tm 6))), (wB 37 (bin2 fAdd (tm 36) (oN 4))), (wB 38 (doMove (tm 5))), (wB 39 (bin2 fAdd (tm 37) (tm 38))), (wB 40 (doSSlice (tm 33) (some (tm 35)) (some (tm 39)))), (wB 8 (doMove (tm 40)))]) s33_13)
noncomputable abbrev s33_15 : CC := (CC.seq s33_8 s33_14)
noncomputable abbrev s33_16 : CC := (CC.seq s33_5 s33_15)
noncomputable abbrev s33_17 : CC := (CC.seq s33_2 s33_16)
noncomputable abbrev s33_18 : CC := (CC.seq (CC.region [(wB 10 (doMove (tm 0))), (wB 11 (doCall 34 [(tm 10)])), (wB 9 (doMove (tm 11))), (wB 12 (doExtract 0 (tm 9))), (wB 13 (doExtract 1 (tm 9))), (wB 14 (doExtract 2 (tm 9))), (wB 5 (doMove (tm 12))), (wB 6 (doMove (tm 13))), (wB 7 (doMove (tm 14)))]) s33_17)
noncomputable abbrev b33 : CC := (CC.seq (CC.region [(wB 2 (doMove (O.c (V.s 0 0)))), (wB 3 (doMove (oN 0))), (wB 4 (doMove (oN 0)))]) s33_18)
theorem c33 : compFn Try.prog 33 = ⟨55, b33, [(Rs.tmp (slOf 2)), (Rs.tmp (slOf 3)), (Rs.tmp (slOf 4))]⟩ := by kernel_rfl
end Go.Proofs.Ythncpgkpkdolfaa

set_option maxRecDepth 100000
set_option maxHeartbeats 8000000
set_option linter.all false
namespace Go.Proofs.Ythncpgkpkdolfaa
open Go Go.Ev
theorem sum_ok {h : H} {l : List UInt8} (hl : l.length ≤ 1000000) : FnOk Try.prog 54 [sv l] h fun y h' => y = .i .u32 (sumB l : Int) ∧ h' = h := by
  refine fn_go c54 (by intro hb; cases hb) (by simp) (by simp) fun Q hQ => ?_
  simp only [slotsF, Nat.reduceAdd]
  repeat' (first
    | refine St.h ?_
    | simp (disch := first | omega | (simp only [lnv]; omega)) only [wlk, ↓get_put', ↓reduceIte, seval]
    | (with_reducible (first | apply cd_split | apply gd_split)) <;> (intro hc; (try simp only [hcn] at hc); (try simp only [hc]); (try simp only [hcl] at hc); try omega))
  refine Ok.lp (fun m t g => ∃ i : Nat, i ≤ l.length ∧ m = l.length - i ∧ g = h ∧ get 0 t = sv l ∧ get 3 t = .i .u32 ((adl (l.take i)).1 : Int) ∧ get 4 t = .i .u32 ((adl (l.take i)).2 : Int) ∧ get 7 t = .i .i64 (l.length : Int) ∧ get 8 t = .i .i64 (i : Int)) l.length ?_ ?_
  · simp (disch := first | omega | (simp only [lnv]; omega)) only [wlk, ↓get_put', ↓reduceIte, seval]
    exact ⟨0, by omega, rfl, trivial, trivial, rfl, rfl, trivial, rfl⟩
  rintro I hI m t g ⟨i, hi, rfl, rfl, f0, f3, f4, f7, f8⟩
  have hci := (l.getD i 0).toNat_lt
  have ⟨b1, b2⟩ := adl_lt (l.take i)
  repeat' (first
    | refine St.h ?_
    | simp (disch := first | omega | (simp only [lnv]; omega)) only [wlk, ↓get_put', ↓reduceIte, seval, f0, f3, f4, f7, f8]
    | (with_reducible (first | apply cd_split | apply gd_split)) <;> (intro hc; (try simp only [hcn] at hc); (try simp only [hc]); (try simp only [hcl] at hc); try omega))
  · have e := adl_take (l := l) (i := i) (by omega)
    refine lp_next hI (l.length - (i + 1)) (by omega) ⟨i + 1, by omega, rfl, rfl, ?_, ?_, ?_, ?_, ?_⟩
    · simp (disch := first | omega | (simp only [lnv]; omega)) only [wlk, ↓get_put', ↓reduceIte, seval, f0]
    · simp (disch := first | omega | (simp only [lnv]; omega)) only [wlk, ↓get_put', ↓reduceIte, seval, e, adlStep]; rfl
    · simp (disch := first | omega | (simp only [lnv]; omega)) only [wlk, ↓get_put', ↓reduceIte, seval, e, adlStep]; rfl
    · simp (disch := first | omega | (simp only [lnv]; omega)) only [wlk, ↓get_put', ↓reduceIte, seval, f7]
    · simp (disch := first | omega | (simp only [lnv]; omega)) only [wlk, ↓get_put', ↓reduceIte, seval]; rfl
  · obtain rfl : i = l.length := by omega
    rw [List.take_length] at *
    have e : (((adl l).2 : Int) * 65536).toNat ||| (adl l).1 = sumB l := by
      rw [show (((adl l).2 : Int) * 65536).toNat = 2 ^ 16 * (adl l).2 by omega, ← Nat.two_pow_add_eq_or_of_lt (by omega)]
      unfold sumB; omega
    subst hQ
    simp (disch := first | omega | (simp only [lnv]; omega)) only [wlk, ↓get_put', ↓reduceIte, seval, e]
theorem rsum_ok {h : H} {l : List UInt8} (hl : l.length ≤ 1000000) : FnOk Try.prog 46 [sv l] h fun y h' => y = .i .u32 (sumB l : Int) ∧ h' = h := by
  refine fn_go c46 (by intro hb; cases hb) (by simp) (by simp) fun Q hQ => ?_
  simp only [slotsF, Nat.reduceAdd]
  repeat' (first
    | refine St.h ?_
    | simp (disch := first | omega | (simp only [lnv]; omega)) only [wlk, ↓get_put', ↓reduceIte, seval]
    | (with_reducible (first | apply cd_split | apply gd_split)) <;> (intro hc; (try simp only [hcn] at hc); (try simp only [hc]); (try simp only [hcl] at hc); try omega))
  refine Ok.lp (fun m t g => ∃ i : Nat, i ≤ l.length ∧ m = l.length - i ∧ g = h ∧ get 0 t = sv l ∧ get 3 t = .i .u32 ((adl (l.take i)).1 : Int) ∧ get 4 t = .i .u32 ((adl (l.take i)).2 : Int) ∧ get 5 t = .i .i64 (i : Int)) l.length ?_ ?_
  · simp (disch := first | omega | (simp only [lnv]; omega)) only [wlk, ↓get_put', ↓reduceIte, seval]
    exact ⟨0, by omega, rfl, trivial, trivial, rfl, rfl, rfl⟩
  rintro I hI m t g ⟨i, hi, rfl, rfl, f0, f3, f4, f8⟩
  have hci := (l.getD i 0).toNat_lt
  have ⟨b1, b2⟩ := adl_lt (l.take i)
  repeat' (first
    | refine St.h ?_
    | simp (disch := first | omega | (simp only [lnv]; omega)) only [wlk, ↓get_put', ↓reduceIte, seval, f0, f3, f4, f8]
    | (with_reducible (first | apply cd_split | apply gd_split)) <;> (intro hc; (try simp only [hcn] at hc); (try simp only [hc]); (try simp only [hcl] at hc); try omega))
  · have e := adl_take (l := l) (i := i) (by omega)
    refine lp_next hI (l.length - (i + 1)) (by omega) ⟨i + 1, by omega, rfl, rfl, ?_, ?_, ?_, ?_⟩
    · simp (disch := first | omega | (simp only [lnv]; omega)) only [wlk, ↓get_put', ↓reduceIte, seval, f0]
    · simp (disch := first | omega | (simp only [lnv]; omega)) only [wlk, ↓get_put', ↓reduceIte, seval, e, adlStep]; rfl
    · simp (disch := first | omega | (simp only [lnv]; omega)) only [wlk, ↓get_put', ↓reduceIte, seval, e, adlStep]; rfl
    · simp (disch := first | omega | (simp only [lnv]; omega)) only [wlk, ↓get_put', ↓reduceIte, seval]; rfl
  · obtain rfl : i = l.length := by omega
    rw [List.take_length] at *
    subst hQ
    refine ⟨?_, rfl⟩
    unfold sumB; rfl
theorem fourB_cells {n : Nat} (h : n < 4294967296) : ([V.i .u8 ((n / 16777216 : Nat) : Int), V.i .u8 ((n / 65536 % 256 : Nat) : Int), V.i .u8 ((n / 256 % 256 : Nat) : Int), V.i .u8 ((n % 256 : Nat) : Int)] : List V) = (fourB n).map bv := by
  have e1 : n / 16777216 = n / 16777216 % 256 := by omega
  rw [e1]
  simp only [bv_ofNat]
  unfold fourB
  simp [u8_mod]
theorem four_ok {h : H} {n : Nat} (hn : n < 4294967296) (hf : B.val h.floor ≤ B.val h.next) : FnOk Try.prog 45 [.i .u32 (n : Int)] h fun y h' => y = sv (fourB n) ∧ Stay nowhere h h' := by
  refine fn_go c45 (by intro hb; cases hb) (by simp) (by simp) fun Q hQ => ?_
  simp only [slotsF, Nat.reduceAdd]
  repeat' (first
    | refine St.h ?_
    | simp (disch := first | omega | (simp only [lnv]; omega)) only [wlk, ↓get_put', ↓reduceIte, seval, wrap_u8m]
    | (with_reducible (first | apply cd_split | apply gd_split)) <;> (intro hc; (try simp only [hcn] at hc); (try simp only [hc]); (try simp only [hcl] at hc); try omega))
  refine AL.str (bs := fourB n) (fourB_cells hn) (by simp [fourB]) rfl rfl (by simp [fourB]) hf fun h' u s1 => ?_
  repeat' (first
    | refine St.h ?_
    | simp (disch := first | omega | (simp only [lnv]; omega)) only [wlk, ↓get_put', ↓reduceIte, seval]
    | (with_reducible (first | apply cd_split | apply gd_split)) <;> (intro hc; (try simp only [hcn] at hc); (try simp only [hc]); (try simp only [hcl] at hc); try omega))
  subst hQ
  exact ⟨rfl, s1⟩
theorem sumBytes_ok {h : H} {l : List UInt8} (hl : l.length ≤ 1000000) (hf : B.val h.floor ≤ B.val h.next) : FnOk Try.prog 44 [sv l] h fun y h' => y = sv (fourB (sumB l)) ∧ Stay nowhere h h' := by
  refine fn_go c44 (by intro hb; cases hb) (by simp) (by simp) fun Q hQ => ?_
  simp only [slotsF, Nat.reduceAdd]
  have hn := sumB_lt l
  repeat' (first
    | refine St.h ?_
    | simp (disch := first | omega | (simp only [lnv]; omega)) only [wlk, ↓get_put', ↓reduceIte, seval]
    | (with_reducible (first | apply cd_split | apply gd_split)) <;> (intro hc; (try simp only [hcn] at hc); (try simp only [hc]); (try simp only [hcl] at hc); try omega))
  refine CL.pure (sum_ok hl) ?_
  repeat' (first
    | refine St.h ?_
    | simp (disch := first | omega | (simp only [lnv]; omega)) only [wlk, ↓get_put', ↓reduceIte, seval, wrap_u8m]
    | (with_reducible (first | apply cd_split | apply gd_split)) <;> (intro hc; (try simp only [hcn] at hc); (try simp only [hc]); (try simp only [hcl] at hc); try omega))
  refine AL.str (bs := fourB (sumB l)) (fourB_cells hn) (by simp [fourB]) rfl rfl (by simp [fourB]) hf fun h' u s1 => ?_
  repeat' (first
    | refine St.h ?_
    | simp (disch := first | omega | (simp only [lnv]; omega)) only [wlk, ↓get_put', ↓reduceIte, seval]
    | (with_reducible (first | apply cd_split | apply gd_split)) <;> (intro hc; (try simp only [hcn] at hc); (try simp only [hc]); (try simp only [hcl] at hc); try omega))
  subst hQ
  exact ⟨rfl, s1⟩
theorem seal_ok {h : H} {l : List UInt8} (hl : l.length ≤ 1000000) (hf : B.val h.floor ≤ B.val h.next) : FnOk Try.prog 26 [sv l] h fun y h' => y = sv (sealB l) ∧ Stay nowhere h h' := by
  refine fn_go c26 (by intro hb; cases hb) (by simp) (by simp) fun Q hQ => ?_
  simp only [slotsF, Nat.reduceAdd]
  have h9 := numB_len (n := l.length) (by omega)
  have h4 := fourB_len (sumB l)
  repeat' (first
    | refine St.h ?_
    | simp (disch := first | omega | (simp only [lnv]; omega)) only [wlk, ↓get_put', ↓reduceIte, seval]
    | (with_reducible (first | apply cd_split | apply gd_split)) <;> (intro hc; (try simp only [hcn] at hc); (try simp only [hc]); (try simp only [hcl] at hc); try omega))
  refine CL.stay (num_ok (by omega) hf) fun h1 s1 => ?_
  repeat' (first
    | refine St.h ?_
    | simp (disch := first | omega | (simp only [lnv]; omega)) only [wlk, ↓get_put', ↓reduceIte, seval]
    | (with_reducible (first | apply cd_split | apply gd_split)) <;> (intro hc; (try simp only [hcn] at hc); (try simp only [hc]); (try simp only [hcl] at hc); try omega))
  refine CL.stay (sumBytes_ok hl (s1.fl hf)) fun h2 s2 => ?_
  repeat' (first
    | refine St.h ?_
    | simp (disch := first | omega | (simp only [lnv]; omega)) only [wlk, ↓get_put', ↓reduceIte, seval]
    | (with_reducible (first | apply cd_split | apply gd_split)) <;> (intro hc; (try simp only [hcn] at hc); (try simp only [hc]); (try simp only [hcl] at hc); try omega))
  subst hQ
  exact ⟨rfl, s1.trans s2⟩
theorem rseal_ok {h : H} {l : List UInt8} (hl : l.length ≤ 1000000) (hf : B.val h.floor ≤ B.val h.next) : FnOk Try.prog 28 [sv l] h fun y h' => y = sv (sealB l) ∧ Stay nowhere h h' := by
  refine fn_go c28 (by intro hb; cases hb) (by simp) (by simp) fun Q hQ => ?_
  simp only [slotsF, Nat.reduceAdd]
  have h9 := numB_len (n := l.length) (by omega)
  have h4 := fourB_len (sumB l)
  repeat' (first
    | refine St.h ?_
    | simp (disch := first | omega | (simp only [lnv]; omega)) only [wlk, ↓get_put', ↓reduceIte, seval]
    | (with_reducible (first | apply cd_split | apply gd_split)) <;> (intro hc; (try simp only [hcn] at hc); (try simp only [hc]); (try simp only [hcl] at hc); try omega))
  refine CL.stay (rnum_ok (by omega) hf) fun h1 s1 => ?_
  repeat' (first
    | refine St.h ?_
    | simp (disch := first | omega | (simp only [lnv]; omega)) only [wlk, ↓get_put', ↓reduceIte, seval]
    | (with_reducible (first | apply cd_split | apply gd_split)) <;> (intro hc; (try simp only [hcn] at hc); (try simp only [hc]); (try simp only [hcl] at hc); try omega))
  refine CL.pure (rsum_ok hl) ?_
  repeat' (first
    | refine St.h ?_
    | simp (disch := first | omega | (simp only [lnv]; omega)) only [wlk, ↓get_put', ↓reduceIte, seval]
    | (with_reducible (first | apply cd_split | apply gd_split)) <;> (intro hc; (try simp only [hcn] at hc); (try simp only [hc]); (try simp only [hcl] at hc); try omega))
  refine CL.stay (four_ok (sumB_lt l) (s1.fl hf)) fun h2 s2 => ?_
  repeat' (first
    | refine St.h ?_
    | simp (disch := first | omega | (simp only [lnv]; omega)) only [wlk, ↓get_put', ↓reduceIte, seval]
    | (with_reducible (first | apply cd_split | apply gd_split)) <;> (intro hc; (try simp only [hcn] at hc); (try simp only [hc]); (try simp only [hcl] at hc); try omega))
  subst hQ
  exact ⟨rfl, s1.trans s2⟩
/-- what Open tells, as a value -/
def opn (l : List UInt8) : V := .tu [sv (openB l).1, .i .i64 (openB l).2.1, .i .i64 (openB l).2.2]
theorem open_ok {h : H} {l : List UInt8} (hl : l.length ≤ 1000000) (hf : B.val h.floor ≤ B.val h.next) : FnOk Try.prog 31 [sv l] h fun y h' => y = opn l ∧ Stay nowhere h h' := by
  refine fn_go c31 (by intro hb; cases hb) (by simp) (by simp) fun Q hQ => ?_
  simp only [slotsF, Nat.reduceAdd]
  repeat' (first
    | refine St.h ?_
    | simp (disch := first | omega | (simp only [lnv]; omega)) only [wlk, ↓get_put', ↓reduceIte, seval]
    | (with_reducible (first | apply cd_split | apply gd_split)) <;> (intro hc; (try simp only [hcn] at hc); (try simp only [hc]); (try simp only [hcl] at hc); try omega))
  refine CL.pure (takeNum_ok hl) ?_
  rcases takeN_range l with (hc | hc) | ⟨n, k, hc, h1, h2, h3, h4⟩
  · have e : openB l = ([], 0, 13) := by unfold openB; rw [hc]; rfl
    rw [hc]; unfold tri
    repeat' (first
      | refine St.h ?_
      | simp (disch := first | omega | (simp only [lnv]; omega)) only [wlk, ↓get_put', ↓reduceIte, seval]
      | (with_reducible (first | apply cd_split | apply gd_split)) <;> (intro hc; (try simp only [hcn] at hc); (try simp only [hc]); (try simp only [hcl] at hc); try omega))
    subst hQ
    exact ⟨by unfold opn; rw [e], Stay.refl _ _⟩
  · have e : openB l = ([], 0, 12) := by unfold openB; rw [hc]; rfl
    rw [hc]; unfold tri
    repeat' (first
      | refine St.h ?_
      | simp (disch := first | omega | (simp only [lnv]; omega)) only [wlk, ↓get_put', ↓reduceIte, seval]
      | (with_reducible (first | apply cd_split | apply gd_split)) <;> (intro hc; (try simp only [hcn] at hc); (try simp only [hc]); (try simp only [hcl] at hc); try omega))
    subst hQ
    exact ⟨by unfold opn; rw [e], Stay.refl _ _⟩
  have e := openB_num hc
  rw [hc]; unfold tri
  have hd : (l.drop k).length = l.length - k := List.length_drop
  repeat' (first
    | refine St.h ?_
    | simp (disch := first | omega | (simp only [lnv]; omega)) only [wlk, ↓get_put', ↓reduceIte, seval, Int.toNat_natCast]
    | (with_reducible (first | apply cd_split | apply gd_split)) <;> (intro hc; (try simp only [hcn] at hc); (try simp only [hc]); (try simp only [hcl] at hc); try omega))
  · rw [if_pos (by omega)] at e
    subst hQ
    exact ⟨by unfold opn; rw [e], Stay.refl _ _⟩
  rw [if_neg (by omega)] at e
  have ht : ((l.drop k).take (4 + (n : Int)).toNat).drop 4 = (l.drop (k + 4)).take n := by
    rw [show (4 + (n : Int)).toNat = 4 + n by omega, List.drop_take, List.drop_drop]
    congr 1; omega
  rw [ht]
  have htl : ((l.drop (k + 4)).take n).length ≤ 1000000 := by rw [List.length_take, List.length_drop]; omega
  refine CL.stay (sumBytes_ok htl hf) fun h1' s1 => ?_
  repeat' (first
    | refine St.h ?_
    | simp (disch := first | omega | (simp only [lnv]; omega)) only [wlk, ↓get_put', ↓reduceIte, seval]
    | (with_reducible (first | apply cd_split | apply gd_split)) <;> (intro hc; (try simp only [hcn] at hc); (try simp only [hc]); (try simp only [hcl] at hc); try omega))
  all_goals subst hQ
  · rw [if_pos (fun e' => hc e'.symm)] at e
    exact ⟨by unfold opn; rw [e], s1⟩
  · rw [if_neg (by intro e'; exact e' hc.symm)] at e
    exact ⟨by unfold opn; rw [e], s1⟩
theorem ropen_ok {h : H} {l : List UInt8} (hl : l.length ≤ 1000000) (hf : B.val h.floor ≤ B.val h.next) : FnOk Try.prog 33 [sv l] h fun y h' => y = opn l ∧ Stay nowhere h h' := by
  refine fn_go c33 (by intro hb; cases hb) (by simp) (by simp) fun Q hQ => ?_
  simp only [slotsF, Nat.reduceAdd]
  repeat' (first
    | refine St.h ?_
    | simp (disch := first | omega | (simp only [lnv]; omega)) only [wlk, ↓get_put', ↓reduceIte, seval]
    | (with_reducible (first | apply cd_split | apply gd_split)) <;> (intro hc; (try simp only [hcn] at hc); (try simp only [hc]); (try simp only [hcl] at hc); try omega))
  refine CL.pure (rtakeNum_ok hl) ?_
  rcases takeN_range l with (hc | hc) | ⟨n, k, hc, h1, h2, h3, h4⟩
  · have e : openB l = ([], 0, 13) := by unfold openB; rw [hc]; rfl
    rw [hc]; unfold tri
    repeat' (first
      | refine St.h ?_
      | simp (disch := first | omega | (simp only [lnv]; omega)) only [wlk, ↓get_put', ↓reduceIte, seval]
      | (with_reducible (first | apply cd_split | apply gd_split)) <;> (intro hc; (try simp only [hcn] at hc); (try simp only [hc]); (try simp only [hcl] at hc); try omega))
    subst hQ
    exact ⟨by unfold opn; rw [e], Stay.refl _ _⟩
  · have e : openB l = ([], 0, 12) := by unfold openB; rw [hc]; rfl
    rw [hc]; unfold tri
    repeat' (first
      | refine St.h ?_
      | simp (disch := first | omega | (simp only [lnv]; omega)) only [wlk, ↓get_put', ↓reduceIte, seval]
      | (with_reducible (first | apply cd_split | apply gd_split)) <;> (intro hc; (try simp only [hcn] at hc); (try simp only [hc]); (try simp only [hcl] at hc); try omega))
    subst hQ
    exact ⟨by unfold opn; rw [e], Stay.refl _ _⟩
  have e := openB_num hc
  rw [hc]; unfold tri
  repeat' (first
    | refine St.h ?_
    | simp (disch := first | omega | (simp only [lnv]; omega)) only [wlk, ↓get_put', ↓reduceIte, seval, Int.toNat_natCast]
    | (with_reducible (first | apply cd_split | apply gd_split)) <;> (intro hc; (try simp only [hcn] at hc); (try simp only [hc]); (try simp only [hcl] at hc); try omega))
  · rw [if_pos (by omega)] at e
    subst hQ
    exact ⟨by unfold opn; rw [e], Stay.refl _ _⟩
  · rw [if_pos (by omega)] at e
    subst hQ
    exact ⟨by unfold opn; rw [e], Stay.refl _ _⟩
  rw [if_neg (by omega)] at e
  have ht : (l.take ((k : Int) + 4 + n).toNat).drop ((k : Int) + 4).toNat = (l.drop (k + 4)).take n := by
    rw [show ((k : Int) + 4 + n).toNat = (k + 4) + n by omega, show ((k : Int) + 4).toNat = k + 4 by omega, List.drop_take]
    congr 1; omega
  have ht2 : (l.take ((k : Int) + 4).toNat).drop k = (l.drop k).take 4 := by
    rw [show ((k : Int) + 4).toNat = k + 4 by omega, List.drop_take]
    congr 1; omega
  rw [ht]
  have htl : ((l.drop (k + 4)).take n).length ≤ 1000000 := by rw [List.length_take, List.length_drop]; omega
  refine CL.pure (rsum_ok htl) ?_
  repeat' (first
    | refine St.h ?_
    | simp (disch := first | omega | (simp only [lnv]; omega)) only [wlk, ↓get_put', ↓reduceIte, seval]
    | (with_reducible (first | apply cd_split | apply gd_split)) <;> (intro hc; (try simp only [hcn] at hc); (try simp only [hc]); (try simp only [hcl] at hc); try omega))
  refine CL.stay (four_ok (sumB_lt _) hf) fun h1 s1 => ?_
  repeat' (first
    | refine St.h ?_
    | simp (disch := first | omega | (simp only [lnv]; omega)) only [wlk, ↓get_put', ↓reduceIte, seval, Int.toNat_natCast, ht2]
    | (with_reducible (first | apply cd_split | apply gd_split)) <;> (intro hc; (try simp only [hcn] at hc); (try simp only [hc]); (try simp only [hcl] at hc); try omega))
  all_goals subst hQ
  · rw [if_pos hc] at e
    exact ⟨by unfold opn; rw [e], s1⟩
  · rw [if_neg (by intro e'; exact e' hc)] at e
    exact ⟨by unfold opn; rw [e], s1⟩
end Go.Proofs.Ythncpgkpkdolfaa

set_option maxRecDepth 100000
set_option maxHeartbeats 8000000
set_option linter.all false
namespace Go.Proofs.Ythncpgkpkdolfaa
open Go Go.Ev
theorem ris12_ok {h : H} {v : V} {L : List Wri} (hL : Ws h v L) (hl : L.length ≤ 10000) (hf : B.val h.floor ≤ B.val h.next) : FnOk Try.prog 16 [v] h fun y h' => y = .b (isB L) ∧ Stay nowhere h h' := by
  refine fn_go c16 (by intro hb; cases hb) (by simp) (by simp) fun Q hQ => ?_
  simp only [slotsF, Nat.reduceAdd]
  repeat' (first
    | refine St.h ?_
    | simp (disch := first | omega | (simp only [lnv]; omega)) only [wlk, ↓get_put', ↓reduceIte, seval]
    | (with_reducible (first | apply cd_split | apply gd_split)) <;> (intro hc; (try simp only [hcn] at hc); (try simp only [hc]); (try simp only [hcl] at hc); try omega))
  refine Ok.lp (fun m t g => ∃ j : Nat, m = L.length - j ∧ j ≤ L.length ∧ Stay nowhere h g ∧ upU L j = true ∧ get 0 t = v ∧ get 3 t = .i .i64 (j : Int)) L.length ?_ ?_
  · simp (disch := first | omega | (simp only [lnv]; omega)) only [wlk, ↓get_put', ↓reduceIte, seval]
    exact ⟨0, by omega, by omega, Stay.refl _ _, rfl, trivial, rfl⟩
  rintro I hI m t g ⟨j, rfl, hj, st, hs, f0, f3⟩
  have hLg := hL.grow st
  have hfg := st.fl hf
  by_cases hjl : j < L.length
  case neg =>
    obtain rfl : j = L.length := by omega
    have hr : ∀ q : Bool, q = decide (L.length ≤ 8) → q = isB L := fun q hq => by unfold isB; rw [hs, Bool.true_and]; exact hq
    repeat' (first
      | refine St.h ?_
      | simp (disch := first | omega | (simp only [lnv]; omega)) only [wlk, ↓get_put', ↓reduceIte, seval, f0, f3, hLg.ln]
      | (with_reducible (first | apply cd_split | apply gd_split)) <;> (intro hc; (try simp only [hcn] at hc); (try simp only [hc]); (try simp only [hcl] at hc); try omega))
    subst hQ
    exact ⟨congrArg V.b (hr _ (by apply decide_eq_decide.2; omega)), st⟩
  have ej : ((j : Int) - 1).toNat = j - 1 := by omega
  repeat' (first
    | refine St.h ?_
    | simp (disch := first | omega | (simp only [lnv]; omega)) only [wlk, ↓get_put', ↓reduceIte, seval, f0, f3, hLg.ln, hLg.ix, hLg.la, Int.toNat_natCast]
    | (with_reducible (first | apply cd_split | apply gd_split)) <;> (intro hc; (try simp only [hcn] at hc); (try simp only [hc]); (try simp only [hcl] at hc); try omega))
  refine CL.stay (risWrite_ok hfg) fun h1 s1 => ?_
  have hL1 := hLg.grow s1
  have st1 := st.trans s1
  cases hw : isW (L.getD j default).key (L.getD j default).del (L.getD j default).val with
  | false =>
    have hn : isB L = false := upU_no hjl (by unfold upA isR; rw [hw]; rfl)
    repeat' (first
      | refine St.h ?_
      | simp (disch := first | omega | (simp only [lnv]; omega)) only [wlk, ↓get_put', ↓reduceIte, seval, f0, f3]
      | (with_reducible (first | apply cd_split | apply gd_split)) <;> (intro hc; (try simp only [hcn] at hc); (try simp only [hc]); (try simp only [hcl] at hc); try omega))
    subst hQ
    exact ⟨by rw [hn], st1⟩
  | true =>
  by_cases h0 : j = 0
  · have hu : upA L j = true := by unfold upA isR; rw [hw, decide_eq_true h0]; rfl
    have hz : ¬ (0 : Int) < (j : Int) := by omega
    repeat' (first
      | refine St.h ?_
      | simp (disch := first | omega | (simp only [lnv]; omega)) only [wlk, ↓get_put', ↓reduceIte, seval, f0, f3, hz]
      | (with_reducible (first | apply cd_split | apply gd_split)) <;> (intro hc; (try simp only [hcn] at hc); (try simp only [hc]); (try simp only [hcl] at hc); try omega))
    refine lp_next hI (L.length - (j + 1)) (by omega) ⟨j + 1, rfl, by omega, st1, by rw [upU_succ, hs, hu]; rfl, ?_, ?_⟩
    · simp (disch := first | omega | (simp only [lnv]; omega)) only [wlk, ↓get_put', ↓reduceIte, seval, f0]
    · simp (disch := first | omega | (simp only [lnv]; omega)) only [wlk, ↓get_put', ↓reduceIte, seval]; rfl
  · have ek : (j : Int) - 1 = ((j - 1 : Nat) : Int) := by omega
    have hz : ((0 : Int) < (j : Int)) = True := eq_true (by omega)
    have hu : upA L j = Op.bytesLess (L.getD (j - 1) default).key (L.getD j default).key := by unfold upA isR; rw [hw, decide_eq_false h0]; rfl
    have hle : (Op.bytesLess (L.getD j default).key (L.getD (j - 1) default).key || decide ((L.getD j default).key = (L.getD (j - 1) default).key)) = !Op.bytesLess (L.getD (j - 1) default).key (L.getD j default).key := by
      by_cases e : (L.getD j default).key = (L.getD (j - 1) default).key
      · rw [e, bl_irr]; simp
      · rw [decide_eq_false e, Bool.or_false]
        rcases bl_total e with h3 | h3
        · rw [h3, bl_asym h3]; rfl
        · rw [h3, bl_asym h3]; rfl
    cases hb : Op.bytesLess (L.getD (j - 1) default).key (L.getD j default).key with
    | false =>
      rw [hb] at hu hle
      have hn : isB L = false := upU_no hjl hu
      repeat' (first
        | refine St.h ?_
        | simp (disch := first | omega | (simp only [lnv]; omega)) only [wlk, ↓get_put', ↓reduceIte, seval, f0, f3, hz, hL1.ln, hL1.ix, hL1.l0, ek, hle, Int.toNat_natCast]
        | (with_reducible (first | apply cd_split | apply gd_split)) <;> (intro hc; (try simp only [hcn] at hc); (try simp only [hc]); (try simp only [hcl] at hc); try omega))
      subst hQ
      exact ⟨by rw [hn], st1⟩
    | true =>
      rw [hb] at hu hle
      repeat' (first
        | refine St.h ?_
        | simp (disch := first | omega | (simp only [lnv]; omega)) only [wlk, ↓get_put', ↓reduceIte, seval, f0, f3, hz, hL1.ln, hL1.ix, hL1.l0, ek, hle, Int.toNat_natCast]
        | (with_reducible (first | apply cd_split | apply gd_split)) <;> (intro hc; (try simp only [hcn] at hc); (try simp only [hc]); (try simp only [hcl] at hc); try omega))
      refine lp_next hI (L.length - (j + 1)) (by omega) ⟨j + 1, rfl, by omega, st1, by rw [upU_succ, hs, hu]; rfl, ?_, ?_⟩
      · simp (disch := first | omega | (simp only [lnv]; omega)) only [wlk, ↓get_put', ↓reduceIte, seval, f0]
      · simp (disch := first | omega | (simp only [lnv]; omega)) only [wlk, ↓get_put', ↓reduceIte, seval]; rfl
theorem fm_wri (L : List Wri) : (L.flatMap wriC).length = L.length * 3 := fm_len wriC_len L
/-- append(u, x) of a write -/
theorem push_w {h : H} {u : V} {M : List Wri} {x : Wri} {id : B} {N : Nx} (b : Buf h 49 3 u (M.flatMap wriC)) (o : Ev.Own h id (wriC x)) (hl : M.length ≤ 100000) (hf : B.val h.floor ≤ B.val h.next)
    (k : ∀ u' h', Buf h' 49 3 u' ((M ++ [x]).flatMap wriC) → Stay (isOf u) h h' → (∀ i, isOf u' i → isOf u i ∨ B.val h.next ≤ B.val i) → N.go Try.prog u' h') : AP Try.prog 49 3 u (.l id 0 0 1 3 (some 1)) h N := by
  refine AP.buf (vs := wriC x) (cnt := 1) b (new_row o.row rfl (Nat.le_refl _) (by omega) (by show 3 ≤ 3; omega)) hf (by omega) rfl rfl (by rw [fm_wri]; show M.length * 3 + 3 ≤ 1048576; omega) fun u' h' b' s' hu _ => ?_
  refine k u' h' ?_ s' hu
  rw [List.flatMap_append]; simpa using b'
theorem few12_ok {h : H} {v : V} {L : List Wri} (hL : Ws h v L) (hl : L.length ≤ 9223372036854775807) : FnOk Try.prog 8 [v] h fun y h' => y = .b (fewW L) ∧ h' = h := by
  refine fn_go c8 (by intro hb; cases hb) (by simp) (by simp) fun Q hQ => ?_
  simp only [slotsF, Nat.reduceAdd]
  repeat' (first
    | refine St.h ?_
    | simp (disch := first | omega | (simp only [lnv]; omega)) only [wlk, ↓get_put', ↓reduceIte, seval]
    | (with_reducible (first | apply cd_split | apply gd_split)) <;> (intro hc; (try simp only [hcn] at hc); (try simp only [hc]); (try simp only [hcl] at hc); try omega))
  refine Ok.lp (fun m t g => ∃ j : Nat, m = L.length - j ∧ h = g ∧ (∀ i, i < j → okW (L.getD i default) = true) ∧ j ≤ L.length ∧ get 0 t = v ∧ get 3 t = .i .i64 (j : Int)) L.length ?_ ?_
  · simp (disch := first | omega | (simp only [lnv]; omega)) only [wlk, ↓get_put', ↓reduceIte, seval]
    refine ⟨0, by omega, trivial, fun i hi => by omega, by omega, ?_⟩
    repeat' (first | trivial | rfl | refine And.intro ?_ ?_)
  rintro I hI m t g ⟨j, rfl, rfl, he, hj, f0, f3⟩
  have hno : j < L.length → okW (L.getD j default) = false → fewW L = false := fun h1 h2 => by
    unfold fewW
    rw [show L.all okW = false from List.all_eq_false.2 ⟨L.getD j default, by simp [List.getD, h1], by rw [h2]; simp⟩]; rfl
  repeat' (first
    | refine St.h ?_
    | simp (disch := first | omega | (simp only [lnv]; omega)) only [wlk, ↓get_put', ↓reduceIte, seval, f0, f3, hL.ln, hL.ix, hL.l0, hL.l2, Int.toNat_natCast]
    | (with_reducible (first | apply cd_split | apply gd_split)) <;> (intro hc; (try simp only [hcn] at hc); (try simp only [hc]); (try simp only [hcl] at hc); try omega))
  · subst hQ
    rw [hno (by omega) (by unfold okW; rw [decide_eq_false (by omega)]; rfl)]; exact ⟨rfl, rfl⟩
  · subst hQ
    rw [hno (by omega) (by unfold okW; rw [decide_eq_false (p := (L.getD j default).val.length ≤ 40) (by omega), Bool.and_false])]; exact ⟨rfl, rfl⟩
  · refine lp_next hI (L.length - (j + 1)) (by omega) ⟨j + 1, rfl, rfl, fun i hi => ?_, by omega, ?_, ?_⟩
    · by_cases e : i = j
      · subst e; unfold okW; rw [decide_eq_true (by omega), decide_eq_true (by omega)]; rfl
      · exact he i (by omega)
    · simp (disch := first | omega | (simp only [lnv]; omega)) only [wlk, ↓get_put', ↓reduceIte, seval, f0]
    · simp (disch := first | omega | (simp only [lnv]; omega)) only [wlk, ↓get_put', ↓reduceIte, seval]; rfl
  · subst hQ
    obtain rfl : j = L.length := by omega
    have h2 : L.all okW = true := List.all_eq_true.2 fun w hw => by
      obtain ⟨i, hi, rfl⟩ := List.getElem_of_mem hw
      have := he i hi
      simpa [List.getD, hi] using this
    refine ⟨congrArg V.b ?_, rfl⟩
    unfold fewW
    rw [h2, Bool.true_and]
    apply decide_eq_decide.2; omega
end Go.Proofs.Ythncpgkpkdolfaa

set_option maxRecDepth 100000
set_option maxHeartbeats 8000000
set_option linter.all false
namespace Go.Proofs.Ythncpgkpkdolfaa
open Go Go.Ev
theorem textB_len (l : List UInt8) (h : l.length ≤ 9223372036854775807) : (textB l).length ≤ l.length + 9 := by
  unfold textB; rw [List.length_append]; have := numB_len h; omega
end Go.Proofs.Ythncpgkpkdolfaa

set_option maxRecDepth 100000
set_option maxHeartbeats 8000000
set_option linter.all false
namespace Go.Proofs.Ythncpgkpkdolfaa
open Go Go.Ev
theorem rowsB_take {L : List Wri} {j : Nat} (hj : j < L.length) : numB L.length ++ (L.take (j + 1)).flatMap oneB = numB L.length ++ (L.take j).flatMap oneB ++ oneB (L.getD j default) := by
  rw [take_wri hj, List.flatMap_append]; simp
theorem oneB_len {w : Wri} (h : isR w = true) : (oneB w).length ≤ 60 := by
  have hr := isR_len h
  have l1 := textB_len w.key (by omega)
  have l2 := textB_len w.val (by omega)
  unfold oneB
  rw [List.length_append]
  split
  · simp; omega
  · rw [List.length_cons]; omega
theorem rows_len {L : List Wri} (hB : isB L = true) : ∀ {j : Nat}, j ≤ L.length → ((L.take j).flatMap oneB).length ≤ 60 * j
  | 0, _ => by simp
  | j + 1, hj => by
    have h1 := rows_len hB (j := j) (by omega)
    have h2 := oneB_len (upA_is (isB_up hB (j := j) (by omega)))
    rw [take_wri (by omega), List.flatMap_append, List.length_append, List.flatMap_cons, List.flatMap_nil, List.append_nil]
    omega
theorem rrow_ok {h : H} {v : V} {L : List Wri} (hL : Ws h v L) (hB : isB L = true) (hf : B.val h.floor ≤ B.val h.next) : FnOk Try.prog 30 [v] h fun y h' => y = sv (rowsB L) ∧ Stay nowhere h h' := by
  have hl := isB_len hB
  refine fn_go c30 (by intro hb; cases hb) (by simp) (by simp) fun Q hQ => ?_
  simp only [slotsF, Nat.reduceAdd]
  repeat' (first
    | refine St.h ?_
    | simp (disch := first | omega | (simp only [lnv]; omega)) only [wlk, ↓get_put', ↓reduceIte, seval, hL.ln]
    | (with_reducible (first | apply cd_split | apply gd_split)) <;> (intro hc; (try simp only [hcn] at hc); (try simp only [hc]); (try simp only [hcl] at hc); try omega))
  refine CL.stay (rnum_ok (by omega) hf) fun h1 s1 => ?_
  have en : ((L.length : Int)).toNat = L.length := by omega
  have ln := numB_len (n := L.length) (by omega)
  repeat' (first
    | refine St.h ?_
    | simp (disch := first | omega | (simp only [lnv]; omega)) only [wlk, ↓get_put', ↓reduceIte, seval, en]
    | (with_reducible (first | apply cd_split | apply gd_split)) <;> (intro hc; (try simp only [hcn] at hc); (try simp only [hc]); (try simp only [hcl] at hc); try omega))
  refine Ok.lp (fun m t g => ∃ j : Nat, m = L.length - j ∧ j ≤ L.length ∧ Stay nowhere h g ∧ get 0 t = v ∧ get 3 t = sv (numB L.length ++ (L.take j).flatMap oneB) ∧ get 4 t = .i .i64 (j : Int)) L.length ?_ ?_
  · simp (disch := first | omega | (simp only [lnv]; omega)) only [wlk, ↓get_put', ↓reduceIte, seval, en]
    refine ⟨0, by omega, by omega, s1, ?_, ?_, ?_⟩ <;> first | trivial | rfl | simp
  rintro I hI m t g ⟨j, rfl, hj, st, f0, f3, f4⟩
  have hLg := hL.grow st
  have hfg := st.fl hf
  by_cases hjl : j < L.length
  · have hr := isR_len (upA_is (isB_up hB hjl))
    have hrl := rows_len hB hj
    have l1 := textB_len (L.getD j default).key (by omega)
    have l2 := textB_len (L.getD j default).val (by omega)
    have hcat := rowsB_take hjl
    repeat' (first
      | refine St.h ?_
      | simp (disch := first | omega | (simp only [lnv]; omega)) only [wlk, ↓get_put', ↓reduceIte, seval, f0, f3, f4, hLg.ln, hLg.ix, hLg.l0, hLg.l1, hLg.l2, Int.toNat_natCast]
      | (with_reducible (first | apply cd_split | apply gd_split)) <;> (intro hc; (try simp only [hcn] at hc); (try simp only [hc]); (try simp only [hcl] at hc); try omega))
    refine CL.stay (rtext_ok (by omega) hfg) fun g1 t1 => ?_
    have hL1 := hLg.grow t1
    have hf1 := t1.fl hfg
    cases hd : (L.getD j default).del with
    | true =>
      repeat' (first
        | refine St.h ?_
        | simp (disch := first | omega | (simp only [lnv]; omega)) only [wlk, ↓get_put', ↓reduceIte, seval, f0, f3, f4, hL1.ln, hL1.ix, hL1.l0, hL1.l1, hL1.l2, hd, Int.toNat_natCast]
        | (with_reducible (first | apply cd_split | apply gd_split)) <;> (intro hc; (try simp only [hcn] at hc); (try simp only [hc]); (try simp only [hcl] at hc); try omega))
      refine lp_next hI (L.length - (j + 1)) (by omega) ⟨j + 1, rfl, by omega, st.trans t1, ?_, ?_, ?_⟩
      · simp (disch := first | omega | (simp only [lnv]; omega)) only [wlk, ↓get_put', ↓reduceIte, seval, f0]
      · rw [hcat]; unfold oneB; rw [hd]; simp (disch := first | omega | (simp only [lnv]; omega)) only [wlk, ↓get_put', ↓reduceIte, seval]; simp
      · simp (disch := first | omega | (simp only [lnv]; omega)) only [wlk, ↓get_put', ↓reduceIte, seval]; rfl
    | false =>
      repeat' (first
        | refine St.h ?_
        | simp (disch := first | omega | (simp only [lnv]; omega)) only [wlk, ↓get_put', ↓reduceIte, seval, f0, f3, f4, hL1.ln, hL1.ix, hL1.l0, hL1.l1, hL1.l2, hd, Int.toNat_natCast]
        | (with_reducible (first | apply cd_split | apply gd_split)) <;> (intro hc; (try simp only [hcn] at hc); (try simp only [hc]); (try simp only [hcl] at hc); try omega))
      refine CL.stay (rtext_ok (by omega) hf1) fun g2 t2 => ?_
      repeat' (first
        | refine St.h ?_
        | simp (disch := first | omega | (simp only [lnv]; omega)) only [wlk, ↓get_put', ↓reduceIte, seval, f0, f3, f4]
        | (with_reducible (first | apply cd_split | apply gd_split)) <;> (intro hc; (try simp only [hcn] at hc); (try simp only [hc]); (try simp only [hcl] at hc); try omega))
      refine lp_next hI (L.length - (j + 1)) (by omega) ⟨j + 1, rfl, by omega, (st.trans t1).trans t2, ?_, ?_, ?_⟩
      · simp (disch := first | omega | (simp only [lnv]; omega)) only [wlk, ↓get_put', ↓reduceIte, seval, f0]
      · rw [hcat]; unfold oneB; rw [hd]; simp (disch := first | omega | (simp only [lnv]; omega)) only [wlk, ↓get_put', ↓reduceIte, seval]; simp
      · simp (disch := first | omega | (simp only [lnv]; omega)) only [wlk, ↓get_put', ↓reduceIte, seval]; rfl
  · obtain rfl : j = L.length := by omega
    repeat' (first
      | refine St.h ?_
      | simp (disch := first | omega | (simp only [lnv]; omega)) only [wlk, ↓get_put', ↓reduceIte, seval, f0, f3, f4, hLg.ln]
      | (with_reducible (first | apply cd_split | apply gd_split)) <;> (intro hc; (try simp only [hcn] at hc); (try simp only [hc]); (try simp only [hcl] at hc); try omega))
    subst hQ
    exact ⟨by rw [List.take_length]; rfl, st⟩
theorem rowsB_len {L : List Wri} (hB : isB L = true) : (rowsB L).length ≤ 500 := by
  have hl := isB_len hB
  have h1 := rows_len hB (Nat.le_refl _)
  have ln := numB_len (n := L.length) (by omega)
  rw [List.take_length] at h1
  unfold rowsB; rw [List.length_append]; omega
theorem rbytes12_ok {h : H} {v : V} {seq : Int} {L : List Wri} (hL : Ws h v L) (hl : L.length ≤ 10000) (hs : -9223372036854775808 ≤ seq) (hs2 : seq ≤ 9223372036854775807) (hf : B.val h.floor ≤ B.val h.next) : FnOk Try.prog 10 [.i .i64 seq, v] h fun y h' => y = .tu [sv (bytB seq L).1, .i .i64 (bytB seq L).2] ∧ Stay nowhere h h' := by
  refine fn_go c10 (by intro hb; cases hb) (by simp) (by simp) fun Q hQ => ?_
  simp only [slotsF, Nat.reduceAdd]
  repeat' (first
    | refine St.h ?_
    | simp (disch := first | omega | (simp only [lnv]; omega)) only [wlk, ↓get_put', ↓reduceIte, seval]
    | (with_reducible (first | apply cd_split | apply gd_split)) <;> (intro hc; (try simp only [hcn] at hc); (try simp only [hc]); (try simp only [hcl] at hc); try omega))
  refine CL.stay (ris12_ok hL hl hf) fun h1 s1 => ?_
  have hf1 := s1.fl hf
  have hL1 := hL.grow s1
  have hno : okB12 seq L = false → bytB seq L = ([], 10) := fun e => by unfold bytB; rw [e]; rfl
  cases hB : isB L with
  | false =>
    have e := hno (by unfold okB12; rw [hB]; rfl)
    repeat' (first
      | refine St.h ?_
      | simp (disch := first | omega | (simp only [lnv]; omega)) only [wlk, ↓get_put', ↓reduceIte, seval]
      | (with_reducible (first | apply cd_split | apply gd_split)) <;> (intro hc; (try simp only [hcn] at hc); (try simp only [hc]); (try simp only [hcl] at hc); try omega))
    subst hQ
    exact ⟨by rw [e], s1⟩
  | true =>
  by_cases h1 : seq < 1
  · have e := hno (by unfold okB12; rw [hB, decide_eq_false (by omega)]; rfl)
    repeat' (first
      | refine St.h ?_
      | simp (disch := first | omega | (simp only [lnv]; omega)) only [wlk, ↓get_put', ↓reduceIte, seval]
      | (with_reducible (first | apply cd_split | apply gd_split)) <;> (intro hc; (try simp only [hcn] at hc); (try simp only [hc]); (try simp only [hcl] at hc); try omega))
    subst hQ
    exact ⟨by rw [e], s1⟩
  by_cases h2 : 1000000 < seq
  · have e := hno (by unfold okB12; rw [hB, decide_eq_false (by omega)]; rfl)
    repeat' (first
      | refine St.h ?_
      | simp (disch := first | omega | (simp only [lnv]; omega)) only [wlk, ↓get_put', ↓reduceIte, seval]
      | (with_reducible (first | apply cd_split | apply gd_split)) <;> (intro hc; (try simp only [hcn] at hc); (try simp only [hc]); (try simp only [hcl] at hc); try omega))
    subst hQ
    exact ⟨by rw [e], s1⟩
  have e : bytB seq L = (batB seq L, 0) := by unfold bytB okB12; rw [hB, decide_eq_true (by omega)]; rfl
  have ln := numB_len (n := seq.toNat) (by omega)
  have lr := rowsB_len hB
  repeat' (first
    | refine St.h ?_
    | simp (disch := first | omega | (simp only [lnv]; omega)) only [wlk, ↓get_put', ↓reduceIte, seval]
    | (with_reducible (first | apply cd_split | apply gd_split)) <;> (intro hc; (try simp only [hcn] at hc); (try simp only [hc]); (try simp only [hcl] at hc); try omega))
  refine CL.stay (rnum_ok (by omega) hf1) fun h2 s2 => ?_
  repeat' (first
    | refine St.h ?_
    | simp (disch := first | omega | (simp only [lnv]; omega)) only [wlk, ↓get_put', ↓reduceIte, seval]
    | (with_reducible (first | apply cd_split | apply gd_split)) <;> (intro hc; (try simp only [hcn] at hc); (try simp only [hc]); (try simp only [hcl] at hc); try omega))
  refine CL.stay (rrow_ok (hL1.grow s2) hB (s2.fl hf1)) fun h3 s3 => ?_
  repeat' (first
    | refine St.h ?_
    | simp (disch := first | omega | (simp only [lnv]; omega)) only [wlk, ↓get_put', ↓reduceIte, seval]
    | (with_reducible (first | apply cd_split | apply gd_split)) <;> (intro hc; (try simp only [hcn] at hc); (try simp only [hc]); (try simp only [hcl] at hc); try omega))
  refine CL.stay (rseal_ok (by rw [List.length_append]; omega) (s3.fl (s2.fl hf1))) fun h4 s4 => ?_
  repeat' (first
    | refine St.h ?_
    | simp (disch := first | omega | (simp only [lnv]; omega)) only [wlk, ↓get_put', ↓reduceIte, seval]
    | (with_reducible (first | apply cd_split | apply gd_split)) <;> (intro hc; (try simp only [hcn] at hc); (try simp only [hc]); (try simp only [hcl] at hc); try omega))
  subst hQ
  exact ⟨by rw [e]; rfl, ((s1.trans s2).trans s3).trans s4⟩
theorem rtakeRow_ok {h : H} {s : List UInt8} (hs : s.length ≤ 1000000) (hf : B.val h.floor ≤ B.val h.next) : FnOk Try.prog 35 [sv s] h fun y h' => ∃ (u : V) (n : Int), y = .tu [u, .i .i64 n, .b (takeR s).isSome] ∧ Ws h' u ((takeR s).getD []) ∧ (∀ q, isOf u q → B.val h.next ≤ B.val q) ∧ Stay nowhere h h' := by
  refine fn_go c35 (by intro hb; cases hb) (by simp) (by simp) fun Q hQ => ?_
  simp only [slotsF, Nat.reduceAdd]
  repeat' (first
    | refine St.h ?_
    | simp (disch := first | omega | (simp only [lnv]; omega)) only [wlk, ↓get_put', ↓reduceIte, seval]
    | (with_reducible (first | apply cd_split | apply gd_split)) <;> (intro hc; (try simp only [hcn] at hc); (try simp only [hc]); (try simp only [hcl] at hc); try omega))
  refine CL.pure (rtakeNum_ok hs) ?_
  have hnil : ∀ n : Int, takeR s = none → ∃ (u : V) (m : Int), V.tu [V.l0, .i .i64 n, .b false] = .tu [u, .i .i64 m, .b (takeR s).isSome] ∧ Ws h u ((takeR s).getD []) ∧ (∀ q, isOf u q → B.val h.next ≤ B.val q) ∧ Stay nowhere h h := fun n e => by
    rw [e]
    refine ⟨.l0, n, rfl, Ss.nil, ?_, Stay.refl _ _⟩
    rintro i ⟨_, _, _, _, _, e⟩; cases e
  rcases takeN_range s with (e | e) | ⟨n, k, e, hn, k1, k2, k3⟩
  · have e0 : takeR s = none := by unfold takeR; rw [e]; rfl
    repeat' (first
      | refine St.h ?_
      | simp (disch := first | omega | (simp only [lnv]; omega)) only [wlk, ↓get_put', ↓reduceIte, seval, e, tri]
      | (with_reducible (first | apply cd_split | apply gd_split)) <;> (intro hc; (try simp only [hcn] at hc); (try simp only [hc]); (try simp only [hcl] at hc); try omega))
    subst hQ
    exact hnil 0 e0
  · have e0 : takeR s = none := by unfold takeR; rw [e]; rfl
    repeat' (first
      | refine St.h ?_
      | simp (disch := first | omega | (simp only [lnv]; omega)) only [wlk, ↓get_put', ↓reduceIte, seval, e, tri]
      | (with_reducible (first | apply cd_split | apply gd_split)) <;> (intro hc; (try simp only [hcn] at hc); (try simp only [hc]); (try simp only [hcl] at hc); try omega))
    subst hQ
    exact hnil 0 e0
  by_cases h8 : 8 < n
  · have e0 : takeR s = none := by unfold takeR; rw [e, if_pos (Or.inr (by show (8 : Int) < (n : Int); omega))]
    have hc8 : ((8 : Int) < (n : Int)) = True := eq_true (by omega)
    repeat' (first
      | refine St.h ?_
      | simp (disch := first | omega | (simp only [lnv]; omega)) only [wlk, ↓get_put', ↓reduceIte, seval, e, tri, hc8]
      | (with_reducible (first | apply cd_split | apply gd_split)) <;> (intro hc; (try simp only [hcn] at hc); (try simp only [hc]); (try simp only [hcl] at hc); try omega))
    subst hQ
    exact hnil 0 e0
  have e0 : takeR s = (takeWs n (s.drop k)).map (·.1) := by
    unfold takeR
    rw [e, if_neg (by show ¬ ((0 : Int) ≠ 0 ∨ (8 : Int) < (n : Int)); omega)]; rfl
  have hc8 : ((8 : Int) < (n : Int)) = False := eq_false (by omega)
  repeat' (first
    | refine St.h ?_
    | simp (disch := first | omega | (simp only [lnv]; omega)) only [wlk, ↓get_put', ↓reduceIte, seval, e, tri, hc8]
    | (with_reducible (first | apply cd_split | apply gd_split)) <;> (intro hc; (try simp only [hcn] at hc); (try simp only [hc]); (try simp only [hcl] at hc); try omega))
  refine Ok.lp (fun m t g => ∃ (j a : Nat) (u : V) (M : List Wri), m = n - j ∧ j ≤ n ∧ a ≤ s.length ∧ M.length = j ∧ takeWs n (s.drop k) = (takeWs (n - j) (s.drop a)).map (fun r => (M ++ r.1, r.2)) ∧ get 0 t = sv s ∧ get 5 t = .i .i64 (n : Int) ∧ get 6 t = .i .i64 (a : Int) ∧ get 8 t = u ∧ get 9 t = .i .i64 (j : Int) ∧ Buf g 49 3 u (M.flatMap wriC) ∧ (∀ q, isOf u q → B.val h.next ≤ B.val q) ∧ Stay nowhere h g) n ?_ ?_
  · simp (disch := first | omega | (simp only [lnv]; omega)) only [wlk, ↓get_put', ↓reduceIte, seval]
    refine ⟨0, k, .l0, [], by omega, by omega, k3, rfl, ?_, ?_, ?_, ?_, ?_, ?_, Buf.nil _ _ _, ?_, Stay.refl _ _⟩
    rotate_right
    · rintro i ⟨_, _, _, _, _, e⟩; cases e
    · rw [Nat.sub_zero]; cases takeWs n (s.drop k) <;> simp
    all_goals first | trivial | rfl
  rintro I hI m t g ⟨j, a, u, M, rfl, hj, ha, hM, hT, f0, f5, f6, f8, f9, bf, own, st⟩
  have hfg := st.fl hf
  by_cases hjn : j < n
  case neg =>
    obtain rfl : j = n := by omega
    rw [Nat.sub_self] at hT
    have e1 : takeR s = some M := by rw [e0, hT]; simp [takeWs]
    repeat' (first
      | refine St.h ?_
      | simp (disch := first | omega | (simp only [lnv]; omega)) only [wlk, ↓get_put', ↓reduceIte, seval, f0, f5, f6, f8, f9]
      | (with_reducible (first | apply cd_split | apply gd_split)) <;> (intro hc; (try simp only [hcn] at hc); (try simp only [hc]); (try simp only [hcl] at hc); try omega))
    subst hQ
    rw [e1]
    exact ⟨u, a, rfl, Ss.buf bf rfl wriC_len (by omega), own, st⟩
  obtain ⟨d, hd⟩ : ∃ d, n - j = d + 1 := ⟨n - j - 1, by omega⟩
  rw [hd] at hT
  have hdl : (s.drop a).length = s.length - a := List.length_drop
  repeat' (first
    | refine St.h ?_
    | simp (disch := first | omega | (simp only [lnv]; omega)) only [wlk, ↓get_put', ↓reduceIte, seval, f0, f5, f6, f8, f9, Int.toNat_natCast]
    | (with_reducible (first | apply cd_split | apply gd_split)) <;> (intro hc; (try simp only [hcn] at hc); (try simp only [hc]); (try simp only [hcl] at hc); try omega))
  refine CL.pure (rtakeText_ok (by omega)) ?_
  have hfail : takeWs (d + 1) (s.drop a) = none → takeR s = none := fun e => by rw [e0, hT, e]; rfl
  have hend : takeR s = none → ∃ (u : V) (m : Int), V.tu [V.l0, .i .i64 0, .b false] = .tu [u, .i .i64 m, .b (takeR s).isSome] ∧ Ws g u ((takeR s).getD []) ∧ (∀ q, isOf u q → B.val h.next ≤ B.val q) ∧ Stay nowhere h g := fun e => by
    rw [e]
    refine ⟨.l0, 0, rfl, Ss.nil, ?_, st⟩
    rintro i ⟨_, _, _, _, _, e⟩; cases e
  have hz0 : ((10 : Int) = 0) = False := eq_false (by decide)
  have hz1 : ((12 : Int) = 0) = False := eq_false (by decide)
  have hTW : takeWs (d + 1) (s.drop a) = if (takeT (s.drop a)).2.2 ≠ 0 ∨ (takeT (s.drop a)).2.1 = ((s.drop a).length : Int) then none
    else if (s.drop a).getD (takeT (s.drop a)).2.1.toNat 0 = 1 then (takeWs d ((s.drop a).drop ((takeT (s.drop a)).2.1.toNat + 1))).map fun r => (⟨(takeT (s.drop a)).1, true, []⟩ :: r.1, r.2)
    else if (takeT ((s.drop a).drop ((takeT (s.drop a)).2.1.toNat + 1))).2.2 ≠ 0 then none
    else (takeWs d (((s.drop a).drop ((takeT (s.drop a)).2.1.toNat + 1)).drop (takeT ((s.drop a).drop ((takeT (s.drop a)).2.1.toNat + 1))).2.1.toNat)).map fun r => (⟨(takeT (s.drop a)).1, false, (takeT ((s.drop a).drop ((takeT (s.drop a)).2.1.toNat + 1))).1⟩ :: r.1, r.2) := rfl
  rcases takeT_range (s.drop a) with (e1 | e1) | ⟨v, q, e1, q1, q2, q3⟩
  · have en := hfail (by rw [hTW, e1]; rfl)
    repeat' (first
      | refine St.h ?_
      | simp (disch := first | omega | (simp only [lnv]; omega)) only [wlk, ↓get_put', ↓reduceIte, seval, f0, f5, f6, f8, f9, e1, triT, hz0]
      | (with_reducible (first | apply cd_split | apply gd_split)) <;> (intro hc; (try simp only [hcn] at hc); (try simp only [hc]); (try simp only [hcl] at hc); try omega))
    subst hQ
    exact hend en
  · have en := hfail (by rw [hTW, e1]; rfl)
    repeat' (first
      | refine St.h ?_
      | simp (disch := first | omega | (simp only [lnv]; omega)) only [wlk, ↓get_put', ↓reduceIte, seval, f0, f5, f6, f8, f9, e1, triT, hz1]
      | (with_reducible (first | apply cd_split | apply gd_split)) <;> (intro hc; (try simp only [hcn] at hc); (try simp only [hc]); (try simp only [hcl] at hc); try omega))
    subst hQ
    exact hend en
  rw [hdl] at q2
  by_cases hqe : a + q = s.length
  · have en := hfail (by rw [hTW, e1, if_pos (Or.inr (by show (q : Int) = ((s.drop a).length : Int); omega))])
    have hq : ((a : Int) + (q : Int) = (s.length : Int)) = True := eq_true (by omega)
    repeat' (first
      | refine St.h ?_
      | simp (disch := first | omega | (simp only [lnv]; omega)) only [wlk, ↓get_put', ↓reduceIte, seval, f0, f5, f6, f8, f9, e1, triT, hq]
      | (with_reducible (first | apply cd_split | apply gd_split)) <;> (intro hc; (try simp only [hcn] at hc); (try simp only [hc]); (try simp only [hcl] at hc); try omega))
    subst hQ
    exact hend en
  have hq : ((a : Int) + (q : Int) = (s.length : Int)) = False := eq_false (by omega)
  have eaq : ((a : Int) + (q : Int)).toNat = a + q := by omega
  have hgd : (s.drop a).getD q 0 = s.getD (a + q) 0 := by simp [List.getD, List.getElem?_drop]
  have hdd : (s.drop a).drop (q + 1) = s.drop (a + q + 1) := by rw [List.drop_drop, Nat.add_assoc]
  have hdl2 : (s.drop (a + q + 1)).length = s.length - (a + q + 1) := List.length_drop
  have eq1 : (q : Int).toNat = q := by omega
  have hb := (s.getD (a + q) 0).toNat_lt
  have hTW2 : takeWs (d + 1) (s.drop a) = if s.getD (a + q) 0 = 1 then (takeWs d (s.drop (a + q + 1))).map fun r => (⟨v, true, []⟩ :: r.1, r.2)
    else if (takeT (s.drop (a + q + 1))).2.2 ≠ 0 then none
    else (takeWs d ((s.drop (a + q + 1)).drop (takeT (s.drop (a + q + 1))).2.1.toNat)).map fun r => (⟨v, false, (takeT (s.drop (a + q + 1))).1⟩ :: r.1, r.2) := by
    rw [hTW, e1]
    show (if (0 : Int) ≠ 0 ∨ (q : Int) = ((s.drop a).length : Int) then none else _) = _
    rw [if_neg (by omega), eq1, hgd, hdd]
  by_cases hc1 : s.getD (a + q) 0 = 1
  · have hc : (((s.getD (a + q) 0).toNat : Int) = 1) = True := eq_true (by rw [hc1]; rfl)
    rw [if_pos hc1] at hTW2
    repeat' (first
      | refine St.h ?_
      | simp (disch := first | omega | (simp only [lnv]; omega)) only [wlk, ↓get_put', ↓reduceIte, seval, f0, f5, f6, f8, f9, e1, triT, hq, eaq, hc]
      | (with_reducible (first | apply cd_split | apply gd_split)) <;> (intro hc; (try simp only [hcn] at hc); (try simp only [hc]); (try simp only [hcl] at hc); try omega))
    refine AL.own (by simp) hfg fun g1 t1 _ o1 => ?_
    have hf1 := t1.fl hfg
    repeat' (first
      | refine St.h ?_
      | simp (disch := first | omega | (simp only [lnv]; omega)) only [wlk, ↓get_put', ↓reduceIte, seval, f0, f5, f6, f8, f9]
      | (with_reducible (first | apply cd_split | apply gd_split)) <;> (intro hc; (try simp only [hcn] at hc); (try simp only [hc]); (try simp only [hcl] at hc); try omega))
    refine ST.all o1 rfl rfl (by simp) (by simp) fun g2 o2 t2 => ?_
    have hf2 := t2.fl hf1
    have o2r := o2.row
    have t12 : Stay nowhere g g2 := t1.past' t2 fun i e => by rw [e]; exact Nat.le_refl _
    repeat' (first
      | refine St.h ?_
      | simp (disch := first | omega | (simp only [lnv]; omega)) only [wlk, ↓get_put', ↓reduceIte, seval, f0, f5, f6, f8, f9, o2r.l1, o2r.ln]
      | (with_reducible (first | apply cd_split | apply gd_split)) <;> (intro hc; (try simp only [hcn] at hc); (try simp only [hc]); (try simp only [hcl] at hc); try omega))
    refine AL.own (by simp) hf2 fun g5 t5 _ q5 => ?_
    have b5 := bf.grow (t12.trans t5)
    repeat' (first
      | refine St.h ?_
      | simp (disch := first | omega | (simp only [lnv]; omega)) only [wlk, ↓get_put', ↓reduceIte, seval, f0, f5, f6, f8, f9]
      | (with_reducible (first | apply cd_split | apply gd_split)) <;> (intro hc; (try simp only [hcn] at hc); (try simp only [hc]); (try simp only [hcl] at hc); try omega))
    refine push_w (x := ⟨v, true, []⟩) b5 q5 (by omega) (t5.fl hf2) fun u2 g6 b6 t6 ho => ?_
    have st6 := (st.trans (t12.trans t5)).past' t6 fun q hq => own q hq
    have n5 := (st.trans (t12.trans t5)).next
    repeat' (first
      | refine St.h ?_
      | simp (disch := first | omega | (simp only [lnv]; omega)) only [wlk, ↓get_put', ↓reduceIte, seval, f0, f5, f6, f8, f9]
      | (with_reducible (first | apply cd_split | apply gd_split)) <;> (intro hc; (try simp only [hcn] at hc); (try simp only [hc]); (try simp only [hcl] at hc); try omega))
    refine lp_next hI (n - (j + 1)) (by omega) ⟨j + 1, a + q + 1, u2, M ++ [⟨v, true, []⟩], rfl, by omega, by omega, by rw [List.length_append, hM]; rfl, ?_, ?_, ?_, ?_, ?_, ?_, b6, fun i hi => ?_, st6⟩
    · rw [hT, hTW2, show n - (j + 1) = d by omega]
      cases takeWs d (s.drop (a + q + 1)) <;> simp
    · simp (disch := first | omega | (simp only [lnv]; omega)) only [wlk, ↓get_put', ↓reduceIte, seval, f0]
    · simp (disch := first | omega | (simp only [lnv]; omega)) only [wlk, ↓get_put', ↓reduceIte, seval, f5]
    · simp (disch := first | omega | (simp only [lnv]; omega)) only [wlk, ↓get_put', ↓reduceIte, seval]; push_cast; first | rfl | (congr 1; omega)
    · simp (disch := first | omega | (simp only [lnv]; omega)) only [wlk, ↓get_put', ↓reduceIte, seval]
    · simp (disch := first | omega | (simp only [lnv]; omega)) only [wlk, ↓get_put', ↓reduceIte, seval]; rfl
    · rcases ho i hi with h3 | h3
      · exact own i h3
      · omega
  · have hc : (((s.getD (a + q) 0).toNat : Int) = 1) = False := eq_false (fun e => hc1 (by apply UInt8.toNat_inj.1; show (s.getD (a + q) 0).toNat = 1; omega))
    rw [if_neg hc1] at hTW2
    repeat' (first
      | refine St.h ?_
      | simp (disch := first | omega | (simp only [lnv]; omega)) only [wlk, ↓get_put', ↓reduceIte, seval, f0, f5, f6, f8, f9, e1, triT, hq, eaq, hc]
      | (with_reducible (first | apply cd_split | apply gd_split)) <;> (intro hc; (try simp only [hcn] at hc); (try simp only [hc]); (try simp only [hcl] at hc); try omega))
    refine AL.own (by simp) hfg fun g1 t1 _ o1 => ?_
    have hf1 := t1.fl hfg
    repeat' (first
      | refine St.h ?_
      | simp (disch := first | omega | (simp only [lnv]; omega)) only [wlk, ↓get_put', ↓reduceIte, seval, f0, f5, f6, f8, f9]
      | (with_reducible (first | apply cd_split | apply gd_split)) <;> (intro hc; (try simp only [hcn] at hc); (try simp only [hc]); (try simp only [hcl] at hc); try omega))
    refine ST.all o1 rfl rfl (by simp) (by simp) fun g2 o2 t2 => ?_
    have hf2 := t2.fl hf1
    have o2r := o2.row
    have t12 : Stay nowhere g g2 := t1.past' t2 fun i e => by rw [e]; exact Nat.le_refl _
    have eaq1 : ((a : Int) + (q : Int) + 1).toNat = a + q + 1 := by omega
    repeat' (first
      | refine St.h ?_
      | simp (disch := first | omega | (simp only [lnv]; omega)) only [wlk, ↓get_put', ↓reduceIte, seval, f0, f5, f6, f8, f9, o2r.l1, o2r.ln, eaq1]
      | (with_reducible (first | apply cd_split | apply gd_split)) <;> (intro hc; (try simp only [hcn] at hc); (try simp only [hc]); (try simp only [hcl] at hc); try omega))
    refine CL.pure (rtakeText_ok (by omega)) ?_
    have hend2 : takeR s = none → ∃ (u : V) (m : Int), V.tu [V.l0, .i .i64 0, .b false] = .tu [u, .i .i64 m, .b (takeR s).isSome] ∧ Ws g2 u ((takeR s).getD []) ∧ (∀ q, isOf u q → B.val h.next ≤ B.val q) ∧ Stay nowhere h g2 := fun e => by
      rw [e]
      refine ⟨.l0, 0, rfl, Ss.nil, ?_, st.trans t12⟩
      rintro i ⟨_, _, _, _, _, e⟩; cases e
    rcases takeT_range (s.drop (a + q + 1)) with (e2 | e2) | ⟨v2, r, e2, r1, r2, r3⟩
    · have en := hfail (by rw [hTW2, e2]; rfl)
      repeat' (first
        | refine St.h ?_
        | simp (disch := first | omega | (simp only [lnv]; omega)) only [wlk, ↓get_put', ↓reduceIte, seval, f0, f5, f6, f8, f9, e2, triT, hz0]
        | (with_reducible (first | apply cd_split | apply gd_split)) <;> (intro hc; (try simp only [hcn] at hc); (try simp only [hc]); (try simp only [hcl] at hc); try omega))
      subst hQ
      exact hend2 en
    · have en := hfail (by rw [hTW2, e2]; rfl)
      repeat' (first
        | refine St.h ?_
        | simp (disch := first | omega | (simp only [lnv]; omega)) only [wlk, ↓get_put', ↓reduceIte, seval, f0, f5, f6, f8, f9, e2, triT, hz1]
        | (with_reducible (first | apply cd_split | apply gd_split)) <;> (intro hc; (try simp only [hcn] at hc); (try simp only [hc]); (try simp only [hcl] at hc); try omega))
      subst hQ
      exact hend2 en
    rw [hdl2] at r2
    have er : (r : Int).toNat = r := by omega
    have hdd2 : (s.drop (a + q + 1)).drop r = s.drop (a + q + 1 + r) := by rw [List.drop_drop]
    rw [e2] at hTW2
    have hTW2 : takeWs (d + 1) (s.drop a) = (takeWs d (s.drop (a + q + 1 + r))).map fun r => (⟨v, false, v2⟩ :: r.1, r.2) := by
      rw [hTW2]
      show (if (0 : Int) ≠ 0 then none else _) = _
      rw [if_neg (by omega), er, hdd2]
    repeat' (first
      | refine St.h ?_
      | simp (disch := first | omega | (simp only [lnv]; omega)) only [wlk, ↓get_put', ↓reduceIte, seval, f0, f5, f6, f8, f9, e2, triT]
      | (with_reducible (first | apply cd_split | apply gd_split)) <;> (intro hc; (try simp only [hcn] at hc); (try simp only [hc]); (try simp only [hcl] at hc); try omega))
    refine ST.own o2 rfl rfl (by omega) (by omega) fun g3 o3 t3 => ?_
    have hf3 := t3.fl hf2
    have o3r := o3.row
    have t13 : Stay nowhere g g3 := t12.past' t3 fun i e => by rw [e]; exact Nat.le_refl _
    repeat' (first
      | refine St.h ?_
      | simp (disch := first | omega | (simp only [lnv]; omega)) only [wlk, ↓get_put', ↓reduceIte, seval, f0, f5, f6, f8, f9, o3r.l1, o3r.ln]
      | (with_reducible (first | apply cd_split | apply gd_split)) <;> (intro hc; (try simp only [hcn] at hc); (try simp only [hc]); (try simp only [hcl] at hc); try omega))
    refine AL.own (by simp) hf3 fun g5 t5 _ q5 => ?_
    have b5 := bf.grow (t13.trans t5)
    repeat' (first
      | refine St.h ?_
      | simp (disch := first | omega | (simp only [lnv]; omega)) only [wlk, ↓get_put', ↓reduceIte, seval, f0, f5, f6, f8, f9]
      | (with_reducible (first | apply cd_split | apply gd_split)) <;> (intro hc; (try simp only [hcn] at hc); (try simp only [hc]); (try simp only [hcl] at hc); try omega))
    refine push_w (x := ⟨v, false, v2⟩) b5 q5 (by omega) (t5.fl hf3) fun u2 g6 b6 t6 ho => ?_
    have st6 := (st.trans (t13.trans t5)).past' t6 fun q hq => own q hq
    have n5 := (st.trans (t13.trans t5)).next
    repeat' (first
      | refine St.h ?_
      | simp (disch := first | omega | (simp only [lnv]; omega)) only [wlk, ↓get_put', ↓reduceIte, seval, f0, f5, f6, f8, f9]
      | (with_reducible (first | apply cd_split | apply gd_split)) <;> (intro hc; (try simp only [hcn] at hc); (try simp only [hc]); (try simp only [hcl] at hc); try omega))
    refine lp_next hI (n - (j + 1)) (by omega) ⟨j + 1, a + q + 1 + r, u2, M ++ [⟨v, false, v2⟩], rfl, by omega, by omega, by rw [List.length_append, hM]; rfl, ?_, ?_, ?_, ?_, ?_, ?_, b6, fun i hi => ?_, st6⟩
    · rw [hT, hTW2, show n - (j + 1) = d by omega]
      cases takeWs d (s.drop (a + q + 1 + r)) <;> simp
    · simp (disch := first | omega | (simp only [lnv]; omega)) only [wlk, ↓get_put', ↓reduceIte, seval, f0]
    · simp (disch := first | omega | (simp only [lnv]; omega)) only [wlk, ↓get_put', ↓reduceIte, seval, f5]
    · simp (disch := first | omega | (simp only [lnv]; omega)) only [wlk, ↓get_put', ↓reduceIte, seval]; push_cast; first | rfl | (congr 1; omega)
    · simp (disch := first | omega | (simp only [lnv]; omega)) only [wlk, ↓get_put', ↓reduceIte, seval]
    · simp (disch := first | omega | (simp only [lnv]; omega)) only [wlk, ↓get_put', ↓reduceIte, seval]; rfl
    · rcases ho i hi with h3 | h3
      · exact own i h3
      · omega
end Go.Proofs.Ythncpgkpkdolfaa

set_option maxRecDepth 100000
set_option maxHeartbeats 8000000
set_option linter.all false
namespace Go.Proofs.Ythncpgkpkdolfaa
open Go Go.Ev
theorem swn_buf12 {h : H} {el n : Nat} {v : V} {xs : List V} (b : Buf h el n v xs) : SwN n v := by
  rcases b with ⟨rfl, _⟩ | ⟨id, g, m, blk, rfl, h1, h2, _⟩
  · exact .inl rfl
  · exact .inr ⟨_, _, _, _, _, _, rfl, by show xs.length = 0 + m * n; omega⟩
theorem takeWs_len : ∀ {n : Nat} {s : List UInt8} {L : List Wri} {r : List UInt8}, takeWs n s = some (L, r) → L.length = n
  | 0, s, L, r, h => by cases h; rfl
  | n + 1, s, L, r, h => by
    have hm : ∀ {w : Wri} {o : Option (List Wri × List UInt8)}, (∀ p, o = some p → p.1.length = n) → (o.map fun r => (w :: r.1, r.2)) = some (L, r) → L.length = n + 1 := by
      intro w o ho h2
      cases o with
      | none => cases h2
      | some p =>
        have := ho p rfl
        cases h2
        simp [this]
    unfold takeWs at h
    split at h
    · cases h
    · split at h
      · exact hm (fun p hp => takeWs_len (L := p.1) (r := p.2) hp) h
      · split at h
        · cases h
        · exact hm (fun p hp => takeWs_len (L := p.1) (r := p.2) hp) h
theorem takeR_len {s : List UInt8} : ((takeR s).getD []).length ≤ 8 := by
  unfold takeR
  split
  · simp
  · rename_i hn
    cases e : takeWs (takeN s).1.toNat (s.drop (takeN s).2.1.toNat) with
    | none => simp
    | some p =>
      have := takeWs_len (L := p.1) (r := p.2) e
      simp; omega
def rdV (u : V) (r : Int × List Wri × Int × Int) : V := .tu [.i .i64 r.1, u, .i .i64 r.2.2.1, .i .i64 r.2.2.2]
theorem rread12_ok {h : H} {s : List UInt8} (hs : s.length ≤ 1000000) (hf : B.val h.floor ≤ B.val h.next) : FnOk Try.prog 12 [sv s] h fun y h' => ∃ u, y = rdV u (readR s) ∧ Ws h' u (readR s).2.1 ∧ (∀ q, isOf u q → B.val h.next ≤ B.val q) ∧ Stay nowhere h h' := by
  refine fn_go c12 (by intro hb; cases hb) (by simp) (by simp) fun Q hQ => ?_
  simp only [slotsF, Nat.reduceAdd]
  repeat' (first
    | refine St.h ?_
    | simp (disch := first | omega | (simp only [lnv]; omega)) only [wlk, ↓get_put', ↓reduceIte, seval]
    | (with_reducible (first | apply cd_split | apply gd_split)) <;> (intro hc; (try simp only [hcn] at hc); (try simp only [hc]); (try simp only [hcl] at hc); try omega))
  refine CL.stay (ropen_ok hs hf) fun h1 s1 => ?_
  have hf1 := s1.fl hf
  have hend : ∀ {g : H} (e : Int), Stay nowhere h g → readR s = (0, [], 0, e) → ∃ u, V.tu [.i .i64 0, .l0, .i .i64 0, .i .i64 e] = rdV u (readR s) ∧ Ws g u (readR s).2.1 ∧ (∀ q, isOf u q → B.val h.next ≤ B.val q) ∧ Stay nowhere h g := fun {g} e st e1 => by
    rw [e1]
    refine ⟨.l0, rfl, Ss.nil, ?_, st⟩
    rintro i ⟨_, _, _, _, _, e⟩; cases e
  rcases openB_range s with e | e | ⟨b, n, e, n1, n2⟩
  · have e0 : readR s = (0, [], 0, 12) := by unfold readR; rw [e]; rfl
    repeat' (first
      | refine St.h ?_
      | simp (disch := first | omega | (simp only [lnv]; omega)) only [wlk, ↓get_put', ↓reduceIte, seval, opn, e]
      | (with_reducible (first | apply cd_split | apply gd_split)) <;> (intro hc; (try simp only [hcn] at hc); (try simp only [hc]); (try simp only [hcl] at hc); try omega))
    subst hQ
    exact hend 12 s1 e0
  · have e0 : readR s = (0, [], 0, 13) := by unfold readR; rw [e]; rfl
    repeat' (first
      | refine St.h ?_
      | simp (disch := first | omega | (simp only [lnv]; omega)) only [wlk, ↓get_put', ↓reduceIte, seval, opn, e]
      | (with_reducible (first | apply cd_split | apply gd_split)) <;> (intro hc; (try simp only [hcn] at hc); (try simp only [hc]); (try simp only [hcl] at hc); try omega))
    subst hQ
    exact hend 13 s1 e0
  have hz0 : ((10 : Int) = 0) = False := eq_false (by decide)
  have hz1 : ((12 : Int) = 0) = False := eq_false (by decide)
  have hRd : readR s = if (takeN b).2.2 ≠ 0 then ((0 : Int), ([] : List Wri), (0 : Int), (10 : Int)) else match takeR (b.drop (takeN b).2.1.toNat) with
    | none => (0, [], 0, 10)
    | some l => if (bytB (takeN b).1 l).2 = 0 ∧ (bytB (takeN b).1 l).1 = s.take n then ((takeN b).1, l, (n : Int), 0) else (0, [], 0, 10) := by
    unfold readR; rw [e]; rfl
  rcases takeN_range b with (e1 | e1) | ⟨q, k, e1, q1, k1, k2, k3⟩
  · have e0 : readR s = (0, [], 0, 10) := by rw [hRd, e1]; rfl
    repeat' (first
      | refine St.h ?_
      | simp (disch := first | omega | (simp only [lnv]; omega)) only [wlk, ↓get_put', ↓reduceIte, seval, opn, e]
      | (with_reducible (first | apply cd_split | apply gd_split)) <;> (intro hc; (try simp only [hcn] at hc); (try simp only [hc]); (try simp only [hcl] at hc); try omega))
    refine CL.pure (rtakeNum_ok (by omega)) ?_
    repeat' (first
      | refine St.h ?_
      | simp (disch := first | omega | (simp only [lnv]; omega)) only [wlk, ↓get_put', ↓reduceIte, seval, e1, tri, hz0]
      | (with_reducible (first | apply cd_split | apply gd_split)) <;> (intro hc; (try simp only [hcn] at hc); (try simp only [hc]); (try simp only [hcl] at hc); try omega))
    subst hQ
    exact hend 10 s1 e0
  · have e0 : readR s = (0, [], 0, 10) := by rw [hRd, e1]; rfl
    repeat' (first
      | refine St.h ?_
      | simp (disch := first | omega | (simp only [lnv]; omega)) only [wlk, ↓get_put', ↓reduceIte, seval, opn, e]
      | (with_reducible (first | apply cd_split | apply gd_split)) <;> (intro hc; (try simp only [hcn] at hc); (try simp only [hc]); (try simp only [hcl] at hc); try omega))
    refine CL.pure (rtakeNum_ok (by omega)) ?_
    repeat' (first
      | refine St.h ?_
      | simp (disch := first | omega | (simp only [lnv]; omega)) only [wlk, ↓get_put', ↓reduceIte, seval, e1, tri, hz1]
      | (with_reducible (first | apply cd_split | apply gd_split)) <;> (intro hc; (try simp only [hcn] at hc); (try simp only [hc]); (try simp only [hcl] at hc); try omega))
    subst hQ
    exact hend 10 s1 e0
  have ek : (k : Int).toNat = k := by omega
  have hRd : readR s = match takeR (b.drop k) with
    | none => (0, [], 0, 10)
    | some l => if (bytB q l).2 = 0 ∧ (bytB q l).1 = s.take n then ((q : Int), l, (n : Int), 0) else (0, [], 0, 10) := by
    rw [hRd, e1]
    show (if (0 : Int) ≠ 0 then _ else _) = _
    rw [if_neg (by omega), ek]
  have hdl : (b.drop k).length = b.length - k := List.length_drop
  repeat' (first
    | refine St.h ?_
    | simp (disch := first | omega | (simp only [lnv]; omega)) only [wlk, ↓get_put', ↓reduceIte, seval, opn, e]
    | (with_reducible (first | apply cd_split | apply gd_split)) <;> (intro hc; (try simp only [hcn] at hc); (try simp only [hc]); (try simp only [hcl] at hc); try omega))
  refine CL.pure (rtakeNum_ok (by omega)) ?_
  repeat' (first
    | refine St.h ?_
    | simp (disch := first | omega | (simp only [lnv]; omega)) only [wlk, ↓get_put', ↓reduceIte, seval, e1, tri, ek]
    | (with_reducible (first | apply cd_split | apply gd_split)) <;> (intro hc; (try simp only [hcn] at hc); (try simp only [hc]); (try simp only [hcl] at hc); try omega))
  refine CL.mk (rtakeRow_ok (by omega) hf1) ?_
  rintro _ h2 ⟨u, z, rfl, hu, ho, s2⟩
  have hf2 := s2.fl hf1
  have s02 := s1.trans s2
  repeat' (first
    | refine St.h ?_
    | simp (disch := first | omega | (simp only [lnv]; omega)) only [wlk, ↓get_put', ↓reduceIte, seval]
    | (with_reducible (first | apply cd_split | apply gd_split)) <;> (intro hc; (try simp only [hcn] at hc); (try simp only [hc]); (try simp only [hcl] at hc); try omega))
  refine CL.stay (rbytes12_ok (seq := q) hu (by have := takeR_len (s := b.drop k); omega) (by omega) (by omega) hf2) fun h3 s3 => ?_
  have s03 := s02.trans s3
  cases ht : takeR (b.drop k) with
  | none =>
    have e0 : readR s = (0, [], 0, 10) := by rw [hRd, ht]
    repeat' (first
      | refine St.h ?_
      | simp (disch := first | omega | (simp only [lnv]; omega)) only [wlk, ↓get_put', ↓reduceIte, seval, ht, Option.isSome_none]
      | (with_reducible (first | apply cd_split | apply gd_split)) <;> (intro hc; (try simp only [hcn] at hc); (try simp only [hc]); (try simp only [hcl] at hc); try omega))
    subst hQ
    exact hend 10 s03 e0
  | some l =>
    rw [ht] at hu
    have hu : Ws h2 u l := hu
    by_cases hb : (bytB q l).2 = 0
    · by_cases hc : (bytB q l).1 = s.take n
      · have e0 : readR s = ((q : Int), l, (n : Int), (0 : Int)) := by rw [hRd, ht]; show (if _ then _ else _) = _; rw [if_pos ⟨hb, hc⟩]
        have hcd : decide ((bytB q l).1 = s.take n) = true := decide_eq_true hc
        repeat' (first
          | refine St.h ?_
          | simp (disch := first | omega | (simp only [lnv]; omega)) only [wlk, ↓get_put', ↓reduceIte, seval, ht, hb, hc, Int.toNat_natCast, Option.isSome_some, Option.getD_some]
          | (with_reducible (first | apply cd_split | apply gd_split)) <;> (intro hc; (try simp only [hcn] at hc); (try simp only [hc]); (try simp only [hcl] at hc); try omega))
        subst hQ
        rw [e0]
        exact ⟨u, rfl, hu.grow s3, fun i hi => Nat.le_trans s1.next (ho i hi), s03⟩
      · have e0 : readR s = (0, [], 0, 10) := by rw [hRd, ht]; show (if _ then _ else _) = _; rw [if_neg fun x => hc x.2]
        have hcd : decide ((bytB q l).1 = s.take n) = false := decide_eq_false hc
        repeat' (first
          | refine St.h ?_
          | simp (disch := first | omega | (simp only [lnv]; omega)) only [wlk, ↓get_put', ↓reduceIte, seval, ht, hb, hc, hcd, Int.toNat_natCast, Option.isSome_some, Option.getD_some]
          | (with_reducible (first | apply cd_split | apply gd_split)) <;> (intro hc; (try simp only [hcn] at hc); (try simp only [hc]); (try simp only [hcl] at hc); try omega))
        subst hQ
        exact hend 10 s03 e0
    · have e0 : readR s = (0, [], 0, 10) := by rw [hRd, ht]; show (if _ then _ else _) = _; rw [if_neg fun x => hb x.1]
      repeat' (first
        | refine St.h ?_
        | simp (disch := first | omega | (simp only [lnv]; omega)) only [wlk, ↓get_put', ↓reduceIte, seval, ht, hb, Int.toNat_natCast, Option.isSome_some, Option.getD_some]
        | (with_reducible (first | apply cd_split | apply gd_split)) <;> (intro hc; (try simp only [hcn] at hc); (try simp only [hc]); (try simp only [hcl] at hc); try omega))
      subst hQ
      exact hend 10 s03 e0
theorem entB_len (seq : Int) (L : List Wri) : (entB seq L).length ≤ L.length ∧ (entB seq L).length ≤ 8 := by
  unfold entB
  cases hB : isB L with
  | false => simp
  | true => have := isB_len hB; simp; omega
theorem readR_num {s b : List UInt8} {n : Nat} (e : openB s = (b, (n : Int), 0)) (h : (takeN b).2.2 ≠ 0) : readR s = (0, [], 0, 10) := by
  unfold readR
  rw [e]
  show (if (0 : Int) ≠ 0 then _ else if (takeN b).2.2 ≠ 0 then _ else _ : Int × List Wri × Int × Int) = _
  rw [if_neg (by omega), if_pos h]
theorem readR_eq {s b : List UInt8} {n q k : Nat} (e : openB s = (b, (n : Int), 0)) (e1 : takeN b = ((q : Int), (k : Int), 0)) : readR s = match takeR (b.drop k) with
    | none => (0, [], 0, 10)
    | some l => if (bytB q l).2 = 0 ∧ (bytB q l).1 = s.take n then ((q : Int), l, (n : Int), 0) else (0, [], 0, 10) := by
  unfold readR
  rw [e]
  show (if (0 : Int) ≠ 0 then _ else if (takeN b).2.2 ≠ 0 then _ else _ : Int × List Wri × Int × Int) = _
  rw [if_neg (by omega), e1]
  show (if (0 : Int) ≠ 0 then _ else _ : Int × List Wri × Int × Int) = _
  rw [if_neg (by omega)]; rfl
theorem bytB_ok {q : Int} {l : List Wri} (h : (bytB q l).2 = 0) : okB12 q l = true ∧ (bytB q l).1 = batB q l := by
  unfold bytB at h ⊢
  cases ho : okB12 q l with
  | false => rw [ho] at h; simp at h
  | true => exact ⟨rfl, rfl⟩
theorem readR_cases (s : List UInt8) : (readR s).2.2.2 ≠ 0 ∨ ∃ (q n : Nat) (l : List Wri), readR s = ((q : Int), l, (n : Int), 0) ∧ okB12 q l = true ∧ s.take n = batB q l ∧ 5 ≤ n ∧ n ≤ s.length := by
  rcases openB_range s with e | e | ⟨b, n, e, n1, n2, n3⟩
  · left; unfold readR; rw [e]; simp
  · left; unfold readR; rw [e]; simp
  · rcases takeN_range b with (e1 | e1) | ⟨q, k, e1, q1, k1, k2, k3⟩
    · left; rw [readR_num e (by rw [e1]; simp)]; simp
    · left; rw [readR_num e (by rw [e1]; simp)]; simp
    · cases ht : takeR (b.drop k) with
      | none => left; rw [readR_eq e e1, ht]; simp
      | some l =>
        have hr : readR s = if (bytB q l).2 = 0 ∧ (bytB q l).1 = s.take n then ((q : Int), l, (n : Int), (0 : Int)) else (0, [], 0, 10) := by rw [readR_eq e e1, ht]
        by_cases hb : (bytB q l).2 = 0 ∧ (bytB q l).1 = s.take n
        · right
          obtain ⟨b1, b2⟩ := bytB_ok hb.1
          exact ⟨q, n, l, by rw [hr, if_pos hb], b1, by rw [← hb.2, b2], n1, n2⟩
        · left; rw [hr, if_neg hb]; simp
theorem allOne_ents : ∀ L : List Ent, allOne (L.flatMap entC) = true
  | [] => rfl
  | a :: L => by
    have := allOne_ents L
    show allOne (entC a ++ L.flatMap entC) = true
    exact this
end Go.Proofs.Ythncpgkpkdolfaa

set_option linter.all false
namespace Go.Ev
open Go
def Up (L : List Wri) : Prop := L.Pairwise fun a b => Op.bytesLess a.key b.key = true
def insW (w : Wri) : List Wri → List Wri
  | [] => [w]
  | x :: L => if x.key = w.key then w :: L else if Op.bytesLess w.key x.key then w :: x :: L else x :: insW w L
theorem wi_true {w : Wri} : ∀ {L : List Wri} {out : List Wri}, (∀ x ∈ L, x.key ≠ w.key) → L.foldl (wiS w) (out, true) = (out ++ L, true)
  | [], out, _ => by simp
  | x :: L, out, h => by
    have h1 := h x (by simp)
    rw [List.foldl_cons, show wiS w (out, true) x = (out ++ [x], true) by unfold wiS; simp [h1], wi_true fun y hy => h y (List.mem_cons_of_mem _ hy)]
    simp
theorem bl_ne {a b : List UInt8} (h : Op.bytesLess a b = true) : a ≠ b := fun e => by rw [e, bl_irr] at h; cases h
theorem wi_false {w : Wri} : ∀ {L : List Wri} {out : List Wri}, Up L → (if (L.foldl (wiS w) (out, false)).2 then (L.foldl (wiS w) (out, false)).1 else (L.foldl (wiS w) (out, false)).1 ++ [w]) = out ++ insW w L
  | [], out, _ => by simp [insW]
  | x :: L, out, h => by
    obtain ⟨h1, h2⟩ := List.pairwise_cons.1 h
    rw [List.foldl_cons]
    by_cases he : x.key = w.key
    · have hl : leB w.key x.key = true := by unfold leB; rw [he]; simp
      rw [show wiS w (out, false) x = (out ++ [w], true) by unfold wiS; simp [he, show leB w.key w.key = true by unfold leB; simp], wi_true fun y hy e => by
        have := h1 y hy
        rw [he, e, bl_irr] at this; cases this]
      unfold insW; rw [if_pos he]; simp
    · cases hb : Op.bytesLess w.key x.key with
      | true =>
        have hl : leB w.key x.key = true := by unfold leB; rw [hb]; rfl
        rw [show wiS w (out, false) x = (out ++ [w] ++ [x], true) by unfold wiS; simp [he, hl], wi_true fun y hy e => by
          have := bl_trans hb (h1 y hy)
          rw [e, bl_irr] at this; cases this]
        unfold insW; rw [if_neg he, hb]; simp
      | false =>
        have hl : leB w.key x.key = false := by unfold leB; rw [hb, decide_eq_false fun e => he e.symm]; rfl
        have hi : insW w (x :: L) = x :: insW w L := by
          show (if x.key = w.key then _ else if _ then _ else _) = _
          rw [if_neg he, hb]; simp
        rw [show wiS w (out, false) x = (out ++ [x], false) by unfold wiS; simp [he, hl], wi_false h2, hi]
        simp
theorem withB_ins {w : Wri} {L : List Wri} (h : Up L) : withB L w = insW w L := by
  have := wi_false (w := w) (out := []) h
  rw [List.nil_append] at this
  exact this
theorem insW_mem {w m : Wri} : ∀ {L : List Wri}, Up L → (m ∈ insW w L ↔ m = w ∨ (m ∈ L ∧ m.key ≠ w.key))
  | [], _ => by simp [insW]
  | x :: L, h => by
    obtain ⟨h1, h2⟩ := List.pairwise_cons.1 h
    unfold insW
    by_cases he : x.key = w.key
    · rw [if_pos he, List.mem_cons, List.mem_cons]
      constructor
      · rintro (e | e)
        · exact .inl e
        · exact .inr ⟨.inr e, fun e2 => bl_ne (h1 m e) (he.trans e2.symm)⟩
      · rintro (e | ⟨e | e, e2⟩)
        · exact .inl e
        · rw [e] at e2; exact absurd he e2
        · exact .inr e
    · rw [if_neg he]
      cases hb : Op.bytesLess w.key x.key with
      | true =>
        rw [if_pos rfl, List.mem_cons, List.mem_cons]
        constructor
        · rintro (e | e | e)
          · exact .inl e
          · exact .inr ⟨.inl e, by rw [e]; exact he⟩
          · exact .inr ⟨.inr e, fun e2 => by
              have := bl_trans hb (h1 m e)
              exact bl_ne this e2.symm⟩
        · rintro (e | ⟨e | e, _⟩)
          · exact .inl e
          · exact .inr (.inl e)
          · exact .inr (.inr e)
      | false =>
        rw [if_neg (by simp), List.mem_cons, insW_mem h2, List.mem_cons]
        constructor
        · rintro (e | e | ⟨e, e2⟩)
          · exact .inr ⟨.inl e, by rw [e]; exact he⟩
          · exact .inl e
          · exact .inr ⟨.inr e, e2⟩
        · rintro (e | ⟨e | e, e2⟩)
          · exact .inr (.inl e)
          · exact .inl e
          · exact .inr (.inr ⟨e, e2⟩)
theorem insW_up {w : Wri} : ∀ {L : List Wri}, Up L → Up (insW w L)
  | [], _ => by simp [insW, Up]
  | x :: L, h => by
    obtain ⟨h1, h2⟩ := List.pairwise_cons.1 h
    unfold insW
    by_cases he : x.key = w.key
    · rw [if_pos he]
      exact List.pairwise_cons.2 ⟨fun y hy => by rw [← he]; exact h1 y hy, h2⟩
    · rw [if_neg he]
      cases hb : Op.bytesLess w.key x.key with
      | true =>
        rw [if_pos rfl]
        exact List.pairwise_cons.2 ⟨fun y hy => by
          rcases List.mem_cons.1 hy with e | e
          · rw [e]; exact hb
          · exact bl_trans hb (h1 y e), h⟩
      | false =>
        rw [if_neg (by simp)]
        refine List.pairwise_cons.2 ⟨fun y hy => ?_, insW_up h2⟩
        rcases (insW_mem h2).1 hy with e | ⟨e, _⟩
        · rw [e]
          rcases bl_total (fun e => he e : x.key ≠ w.key) with h3 | h3
          · exact h3
          · rw [hb] at h3; cases h3
        · exact h1 y e
theorem insW_len {w : Wri} : ∀ L : List Wri, (insW w L).length ≤ L.length + 1
  | [] => by simp [insW]
  | x :: L => by
    unfold insW
    have := insW_len (w := w) L
    split
    · simp
    · split
      · simp
      · simp; omega
theorem neat_up : ∀ (L out : List Wri), Up out → Up (L.foldl withB out)
  | [], _, h => h
  | w :: L, out, h => by
    rw [List.foldl_cons]
    exact neat_up L _ (by rw [withB_ins h]; exact insW_up h)
theorem neatB_up (L : List Wri) : Up (neatB L) := neat_up L [] List.Pairwise.nil
theorem neatB_step {L : List Wri} {i : Nat} (hi : i < L.length) : neatB (L.take (i + 1)) = insW (L.getD i default) (neatB (L.take i)) := by rw [neatB_take hi, withB_ins (neatB_up _)]
theorem neatB_len {L : List Wri} : ∀ {j : Nat}, j ≤ L.length → (neatB (L.take j)).length ≤ j
  | 0, _ => by simp [neatB]
  | j + 1, hj => by
    have h1 := neatB_len (L := L) (j := j) (by omega)
    have h2 := insW_len (w := L.getD j default) (neatB (L.take j))
    rw [neatB_step (by omega)]; omega
theorem up_ext : ∀ {A C : List Wri}, Up A → Up C → (∀ a, a ∈ A ↔ a ∈ C) → A = C
  | [], [], _, _, _ => rfl
  | [], c :: C, _, _, h => absurd ((h c).2 (by simp)) (by simp)
  | a :: A, [], _, _, h => absurd ((h a).1 (by simp)) (by simp)
  | a :: A, c :: C, ha, hc, h => by
    obtain ⟨a1, a2⟩ := List.pairwise_cons.1 ha
    obtain ⟨c1, c2⟩ := List.pairwise_cons.1 hc
    have e : a = c := by
      rcases List.mem_cons.1 ((h a).1 (by simp)) with e | e
      · exact e
      · rcases List.mem_cons.1 ((h c).2 (by simp)) with e2 | e2
        · exact e2.symm
        · have := bl_trans (c1 a e) (a1 c e2)
          rw [bl_irr] at this; cases this
    subst e
    rw [up_ext a2 c2 fun x => ?_]
    constructor
    · intro hx
      rcases List.mem_cons.1 ((h x).1 (List.mem_cons_of_mem _ hx)) with e | e
      · have := a1 x hx; rw [e, bl_irr] at this; cases this
      · exact e
    · intro hx
      rcases List.mem_cons.1 ((h x).2 (List.mem_cons_of_mem _ hx)) with e | e
      · have := c1 x hx; rw [e, bl_irr] at this; cases this
      · exact e
end Go.Ev

set_option linter.all false
namespace Go.Ev
open Go
/-- of two of L, by their places: is the first one's key less -/
def klK (L : List Wri) (x y : Nat) : Bool := Op.bytesLess (L.getD x default).key (L.getD y default).key
def eqK (L : List Wri) (x y : Nat) : Prop := (L.getD x default).key = (L.getD y default).key
/-- by keys, those of one key as they came -/
def ltK (L : List Wri) (x y : Nat) : Prop := klK L x y = true ∨ (eqK L x y ∧ x < y)
section
variable {L : List Wri} {x y z : Nat} {p q : Nat → Nat} {a b c m s e n : Nat}
theorem ltK_kl (h : klK L x y = true) : ltK L x y := .inl h
theorem ltK_no (h : klK L x y = false) (hs : eqK L y x → y < x) : ltK L y x := by
  unfold klK at h
  by_cases e : (L.getD x default).key = (L.getD y default).key
  · exact .inr ⟨e.symm, hs e.symm⟩
  · rcases bl_total e with h2 | h2
    · rw [h] at h2; cases h2
    · exact .inl h2
theorem ltK_trans (h1 : ltK L x y) (h2 : ltK L y z) : ltK L x z := by
  unfold ltK klK eqK at *
  rcases h1 with h1 | ⟨h1, h3⟩ <;> rcases h2 with h2 | ⟨h2, h4⟩
  · exact .inl (bl_trans h1 h2)
  · rw [h2] at h1; exact .inl h1
  · rw [← h1] at h2; exact .inl h2
  · exact .inr ⟨h1.trans h2, by omega⟩
/-- the row in places a to b is in order -/
def Srt (L : List Wri) (p : Nat → Nat) (a b : Nat) : Prop := ∀ i j, a ≤ i → i < j → j < b → ltK L (p i) (p j)
/-- of one key those in the first part came first -/
def Stb (L : List Wri) (p : Nat → Nat) (a m b : Nat) : Prop := ∀ i j, a ≤ i → i < m → m ≤ j → j < b → eqK L (p i) (p j) → p i < p j
def Crs (L : List Wri) (p : Nat → Nat) (a m b : Nat) : Prop := ∀ i j, a ≤ i → i < m → m ≤ j → j < b → ltK L (p i) (p j)
/-- in places a to b the same ones, elsewhere nothing has changed -/
structure Per (p q : Nat → Nat) (a b : Nat) : Prop where
  out : ∀ k, k < a ∨ b ≤ k → q k = p k
  mem : ∀ x, (∃ k, a ≤ k ∧ k < b ∧ q k = x) ↔ ∃ k, a ≤ k ∧ k < b ∧ p k = x
theorem Per.refl : Per p p a b := ⟨fun _ _ => rfl, fun _ => Iff.rfl⟩
theorem Per.trans {r : Nat → Nat} (h1 : Per p q a b) (h2 : Per q r a b) : Per p r a b := ⟨fun k hk => (h2.out k hk).trans (h1.out k hk), fun x => (h2.mem x).trans (h1.mem x)⟩
theorem Per.wide {a' b' : Nat} (h : Per p q a b) (ha : a' ≤ a) (hb : b ≤ b') : Per p q a' b' := by
  refine ⟨fun k hk => h.out k (by omega), fun x => ⟨?_, ?_⟩⟩
  · rintro ⟨k, h1, h2, h3⟩
    by_cases hk : k < a ∨ b ≤ k
    · exact ⟨k, h1, h2, by rw [← h.out k hk]; exact h3⟩
    · obtain ⟨j, h4, h5, h6⟩ := (h.mem x).1 ⟨k, by omega, by omega, h3⟩
      exact ⟨j, by omega, by omega, h6⟩
  · rintro ⟨k, h1, h2, h3⟩
    by_cases hk : k < a ∨ b ≤ k
    · exact ⟨k, h1, h2, by rw [h.out k hk]; exact h3⟩
    · obtain ⟨j, h4, h5, h6⟩ := (h.mem x).2 ⟨k, by omega, by omega, h3⟩
      exact ⟨j, by omega, by omega, h6⟩
theorem srt_glue (h1 : Srt L p a m) (h2 : Srt L p m b) (h3 : Crs L p a m b) : Srt L p a b := fun i j hi hij hj => by
  by_cases h4 : j < m
  · exact h1 i j hi hij h4
  · by_cases h5 : m ≤ i
    · exact h2 i j h5 hij hj
    · exact h3 i j hi (by omega) (by omega) hj
theorem crs_per (h : Crs L p a m b) (h1 : Per p q a m) : Crs L q a m b := fun i j hi him hmj hj => by
  obtain ⟨k, k1, k2, k3⟩ := (h1.mem (q i)).1 ⟨i, hi, him, rfl⟩
  rw [← k3, h1.out j (.inr hmj)]
  exact h k j k1 k2 hmj hj
theorem crs_per2 (h : Crs L p a m b) (h1 : Per p q m b) : Crs L q a m b := fun i j hi him hmj hj => by
  obtain ⟨k, k1, k2, k3⟩ := (h1.mem (q j)).1 ⟨j, hmj, hj, rfl⟩
  rw [← k3, h1.out i (.inl him)]
  exact h i k hi him k1 k2
theorem srt_out (h : Srt L p a b) (h1 : ∀ k, a ≤ k → k < b → q k = p k) : Srt L q a b := fun i j hi hij hj => by
  rw [h1 i hi (by omega), h1 j (by omega) hj]; exact h i j hi hij hj
/-- s on: i there, then j; turned about -/
def rotK (p : Nat → Nat) (s i j : Nat) : Nat → Nat := fun k => if k < s then p k else if k < s + j then p (k + i) else if k < s + j + i then p (k - j) else p k
theorem rot_lo (h : x < s) : rotK p s a b x = p x := if_pos h
theorem rot_1 (h1 : s ≤ x) (h2 : x < s + b) : rotK p s a b x = p (x + a) := by unfold rotK; rw [if_neg (by omega), if_pos h2]
theorem rot_2 (h1 : s + b ≤ x) (h2 : x < s + b + a) : rotK p s a b x = p (x - b) := by unfold rotK; rw [if_neg (by omega), if_neg (by omega), if_pos h2]
theorem rot_hi (h : s + b + a ≤ x) : rotK p s a b x = p x := by unfold rotK; rw [if_neg (by omega), if_neg (by omega), if_neg (by omega)]
/-- n from a on and n from b on change places -/
def blcK (p : Nat → Nat) (a b n : Nat) : Nat → Nat := fun k => if a ≤ k ∧ k < a + n then p (k - a + b) else if b ≤ k ∧ k < b + n then p (k - b + a) else p k
def swpK (p : Nat → Nat) (a b : Nat) : Nat → Nat := fun k => if k = b then p a else if k = a then p b else p k
theorem blc_zero : blcK p a b 0 = p := by funext k; unfold blcK; rw [if_neg (by omega), if_neg (by omega)]
theorem blc_succ (h : a + n + 1 ≤ b) : swpK (blcK p a b n) (a + n) (b + n) = blcK p a b (n + 1) := by
  funext k
  unfold swpK blcK
  by_cases h1 : k = b + n
  · subst h1
    rw [if_pos rfl, if_neg (by omega), if_neg (by omega), if_neg (by omega), if_pos (by omega)]; congr 1; omega
  · rw [if_neg h1]
    by_cases h2 : k = a + n
    · subst h2
      rw [if_pos rfl, if_neg (by omega), if_neg (by omega), if_pos (by omega)]; congr 1; omega
    · rw [if_neg h2]
      by_cases h3 : a ≤ k ∧ k < a + n
      · rw [if_pos h3, if_pos (by omega)]
      · rw [if_neg h3, if_neg (c := a ≤ k ∧ k < a + (n + 1)) (by omega)]
        by_cases h4 : b ≤ k ∧ k < b + n
        · rw [if_pos h4, if_pos (by omega)]
        · rw [if_neg h4, if_neg (by omega)]
theorem rot_gt {i j : Nat} (h : j < i) : rotK (blcK p s (s + i) j) (s + j) (i - j) j = rotK p s i j := by
  funext k
  by_cases h1 : k < s
  · rw [rot_lo (by omega), rot_lo h1]; unfold blcK; rw [if_neg (by omega), if_neg (by omega)]
  · by_cases h2 : k < s + j
    · rw [rot_lo h2, rot_1 (by omega) h2]; unfold blcK; rw [if_pos (by omega)]; congr 1; omega
    · by_cases h3 : k < s + j + j
      · rw [rot_1 (by omega) h3, rot_2 (by omega) (by omega)]; unfold blcK; rw [if_neg (by omega), if_pos (by omega)]; congr 1; omega
      · by_cases h4 : k < s + j + i
        · rw [rot_2 (by omega) (by omega), rot_2 (by omega) h4]; unfold blcK; rw [if_neg (by omega), if_neg (by omega)]
        · rw [rot_hi (by omega), rot_hi (by omega)]; unfold blcK; rw [if_neg (by omega), if_neg (by omega)]
theorem rot_lt {i j : Nat} (h : i < j) : rotK (blcK p s (s + j) i) s i (j - i) = rotK p s i j := by
  funext k
  by_cases h1 : k < s
  · rw [rot_lo h1, rot_lo h1]; unfold blcK; rw [if_neg (by omega), if_neg (by omega)]
  · by_cases h2 : k < s + (j - i)
    · rw [rot_1 (by omega) h2, rot_1 (by omega) (by omega)]; unfold blcK; rw [if_neg (by omega), if_neg (by omega)]
    · by_cases h3 : k < s + j
      · rw [rot_2 (by omega) (by omega), rot_1 (by omega) h3]; unfold blcK; rw [if_pos (by omega)]; congr 1; omega
      · by_cases h4 : k < s + j + i
        · rw [rot_hi (by omega), rot_2 (by omega) h4]; unfold blcK; rw [if_neg (by omega), if_pos (by omega)]; congr 1; omega
        · rw [rot_hi (by omega), rot_hi (by omega)]; unfold blcK; rw [if_neg (by omega), if_neg (by omega)]
theorem rot_eq {i : Nat} : blcK p s (s + i) i = rotK p s i i := by
  funext k
  by_cases h1 : k < s
  · rw [rot_lo h1]; unfold blcK; rw [if_neg (by omega), if_neg (by omega)]
  · by_cases h2 : k < s + i
    · rw [rot_1 (by omega) h2]; unfold blcK; rw [if_pos (by omega)]; congr 1; omega
    · by_cases h3 : k < s + i + i
      · rw [rot_2 (by omega) h3]; unfold blcK; rw [if_neg (by omega), if_pos (by omega)]; congr 1; omega
      · rw [rot_hi (by omega)]; unfold blcK; rw [if_neg (by omega), if_neg (by omega)]
theorem rot_n0 : rotK p s n 0 = p := by
  funext k
  by_cases h1 : k < s
  · exact rot_lo h1
  · by_cases h2 : k < s + n
    · rw [rot_2 (by omega) (by omega)]; rfl
    · exact rot_hi (by omega)
theorem rot_0n : rotK p s 0 n = p := by
  funext k
  by_cases h1 : k < s
  · exact rot_lo h1
  · by_cases h2 : k < s + n
    · rw [rot_1 (by omega) (by omega)]; rfl
    · exact rot_hi (by omega)
/-- one is moved up by one more place -/
theorem rot_up : swpK (rotK p s 1 n) (s + n) (s + n + 1) = rotK p s 1 (n + 1) := by
  funext k
  unfold swpK
  by_cases h1 : k = s + n + 1
  · subst h1
    rw [if_pos rfl, rot_2 (by omega) (by omega), rot_2 (by omega) (by omega)]; congr 1; omega
  · rw [if_neg h1]
    by_cases h2 : k = s + n
    · subst h2
      rw [if_pos rfl, rot_hi (by omega), rot_1 (by omega) (by omega)]
    · rw [if_neg h2]
      by_cases h3 : k < s
      · rw [rot_lo h3, rot_lo h3]
      · by_cases h4 : k < s + n
        · rw [rot_1 (by omega) h4, rot_1 (by omega) (by omega)]
        · rw [rot_hi (by omega), rot_hi (by omega)]
/-- one is moved down by one more place -/
theorem rot_dn : swpK (rotK p (s + 1) n 1) (s + 1) s = rotK p s (n + 1) 1 := by
  funext k
  unfold swpK
  by_cases h1 : k = s
  · subst h1
    rw [if_pos rfl, rot_1 (by omega) (by omega), rot_1 (by omega) (by omega)]; congr 1; omega
  · rw [if_neg h1]
    by_cases h2 : k = s + 1
    · subst h2
      rw [if_pos rfl, rot_lo (by omega), rot_2 (by omega) (by omega)]; rfl
    · rw [if_neg h2]
      by_cases h3 : k < s
      · rw [rot_lo (by omega), rot_lo h3]
      · by_cases h4 : k < s + 1 + 1 + n
        · rw [rot_2 (by omega) h4, rot_2 (by omega) (by omega)]
        · rw [rot_hi (by omega), rot_hi (by omega)]
theorem rot_per {i j : Nat} (ha : a ≤ s) (hb : s + j + i ≤ b) : Per p (rotK p s i j) a b := by
  refine Per.wide (a := s) (b := s + j + i) ⟨fun k hk => ?_, fun x => ⟨?_, ?_⟩⟩ ha hb
  · rcases hk with h | h
    · exact rot_lo h
    · exact rot_hi h
  · rintro ⟨k, h1, h2, rfl⟩
    by_cases h3 : k < s + j
    · exact ⟨k + i, by omega, by omega, (rot_1 h1 h3).symm⟩
    · exact ⟨k - j, by omega, by omega, (rot_2 (by omega) h2).symm⟩
  · rintro ⟨k, h1, h2, rfl⟩
    by_cases h3 : k < s + i
    · exact ⟨k + j, by omega, by omega, by rw [rot_2 (by omega) (by omega)]; congr 1; omega⟩
    · exact ⟨k - i, by omega, by omega, by rw [rot_1 (by omega) (by omega)]; congr 1; omega⟩
/-- what stands from s to m goes behind what stands from m to e: what is left to be merged -/
theorem rot_half (h1 : a ≤ s) (h2 : s ≤ m) (h3 : m ≤ e) (h4 : e ≤ b) (A : Srt L p a m) (B : Srt L p m b) (S : Stb L p a m b) (hc : c = s + (e - m)) (x1 : s = a ∨ e = b ∨ ltK L (p (s - 1)) (p e)) (x2 : e = m ∨ s = m ∨ ltK L (p (e - 1)) (p s)) :
    let q := rotK p s (m - s) (e - m)
    Srt L q a s ∧ Srt L q s c ∧ Stb L q a s c ∧ Srt L q c e ∧ Srt L q e b ∧ Stb L q c e b ∧ Crs L q a c b := by
  intro q
  subst hc
  have q0 : ∀ k, k < s → q k = p k := fun k hk => rot_lo hk
  have q1 : ∀ k, s ≤ k → k < s + (e - m) → q k = p (k + (m - s)) := fun k hk hk2 => rot_1 hk hk2
  have q2 : ∀ k, s + (e - m) ≤ k → k < e → q k = p (k - (e - m)) := fun k hk hk2 => rot_2 hk (by omega)
  have q3 : ∀ k, e ≤ k → q k = p k := fun k hk => rot_hi (by omega)
  refine ⟨?_, ?_, ?_, ?_, ?_, ?_, ?_⟩
  · intro i j hi hij hj
    rw [q0 i (by omega), q0 j hj]; exact A i j hi hij (by omega)
  · intro i j hi hij hj
    rw [q1 i hi (by omega), q1 j (by omega) hj]; exact B _ _ (by omega) (by omega) (by omega)
  · intro i j hi his hsj hj
    rw [q0 i his, q1 j hsj hj]; exact S _ _ hi (by omega) (by omega) (by omega)
  · intro i j hi hij hj
    rw [q2 i hi (by omega), q2 j (by omega) hj]; exact A _ _ (by omega) (by omega) (by omega)
  · intro i j hi hij hj
    rw [q3 i hi, q3 j (by omega)]; exact B _ _ (by omega) hij hj
  · intro i j hi hie hej hj
    rw [q2 i hi hie, q3 j hej]; exact S _ _ (by omega) (by omega) (by omega) hj
  · have le1 : ∀ {P : Prop} {i j : Nat}, (a ≤ i ∧ i ≤ j ∧ j < m) → (i = j → P) → (ltK L (p i) (p j) → P) → P := fun {P} {i j} h f g => by
      by_cases hij : i = j
      · exact f hij
      · exact g (A i j h.1 (by omega) h.2.2)
    have le2 : ∀ {P : Prop} {i j : Nat}, (m ≤ i ∧ i ≤ j ∧ j < b) → (i = j → P) → (ltK L (p i) (p j) → P) → P := fun {P} {i j} h f g => by
      by_cases hij : i = j
      · exact f hij
      · exact g (B i j h.1 (by omega) h.2.2)
    intro i j hi hic hcj hj
    by_cases d1 : i < s
    · rw [q0 i d1]
      by_cases d2 : j < e
      · rw [q2 j hcj d2]; exact A _ _ hi (by omega) (by omega)
      · rw [q3 j (by omega)]
        have hx : ltK L (p (s - 1)) (p e) := by
          rcases x1 with h | h | h
          · omega
          · omega
          · exact h
        have hy : ltK L (p i) (p e) := le1 (i := i) (j := s - 1) ⟨hi, by omega, by omega⟩ (fun h => by rw [h]; exact hx) fun h => ltK_trans h hx
        exact le2 (i := e) (j := j) ⟨by omega, by omega, hj⟩ (fun h => by rw [← h]; exact hy) fun h => ltK_trans hy h
    · rw [q1 i (by omega) hic]
      by_cases d2 : j < e
      · rw [q2 j hcj d2]
        have hx : ltK L (p (e - 1)) (p s) := by
          rcases x2 with h | h | h
          · omega
          · omega
          · exact h
        have hy : ltK L (p (i + (m - s))) (p s) := le2 (i := i + (m - s)) (j := e - 1) ⟨by omega, by omega, by omega⟩ (fun h => by rw [h]; exact hx) fun h => ltK_trans h hx
        exact le1 (i := s) (j := j - (e - m)) ⟨by omega, by omega, by omega⟩ (fun h => by rw [← h]; exact hy) fun h => ltK_trans hy h
      · rw [q3 j (by omega)]; exact B _ _ (by omega) (by omega) hj
/-- one ahead: put in its place -/
theorem rot_one_up (h3 : a + 1 ≤ e) (h4 : e ≤ b) (B : Srt L p (a + 1) b) (x2 : e = a + 1 ∨ ltK L (p (e - 1)) (p a)) (x3 : e = b ∨ ltK L (p a) (p e)) : Srt L (rotK p a 1 (e - (a + 1))) a b := by
  have q1 : ∀ k, a ≤ k → k + 1 < e → rotK p a 1 (e - (a + 1)) k = p (k + 1) := fun k hk hk2 => rot_1 hk (by omega)
  have q2 : rotK p a 1 (e - (a + 1)) (e - 1) = p a := by rw [rot_2 (by omega) (by omega)]; congr 1; omega
  have q3 : ∀ k, e ≤ k → rotK p a 1 (e - (a + 1)) k = p k := fun k hk => rot_hi (by omega)
  intro i j hi hij hj
  by_cases d1 : i + 1 < e
  · rw [q1 i hi d1]
    by_cases d2 : j + 1 < e
    · rw [q1 j (by omega) d2]; exact B _ _ (by omega) (by omega) (by omega)
    · by_cases d3 : j = e - 1
      · rw [d3, q2]
        have hx := x2.resolve_left (by omega)
        by_cases d4 : i + 1 = e - 1
        · rw [d4]; exact hx
        · exact ltK_trans (B (i + 1) (e - 1) (by omega) (by omega) (by omega)) hx
      · rw [q3 j (by omega)]; exact B _ _ (by omega) (by omega) hj
  · by_cases d3 : i = e - 1
    · rw [d3, q2, q3 j (by omega)]
      have hx := x3.resolve_left (by omega)
      by_cases d4 : j = e
      · rw [d4]; exact hx
      · exact ltK_trans hx (B e j (by omega) (by omega) hj)
    · rw [q3 i (by omega), q3 j (by omega)]; exact B _ _ (by omega) hij hj
/-- one behind: put in its place -/
theorem rot_one_dn (h1 : a ≤ s) (h2 : s ≤ m) (A : Srt L p a m) (x1 : s = a ∨ ltK L (p (s - 1)) (p m)) (x3 : s = m ∨ ltK L (p m) (p s)) : Srt L (rotK p s (m - s) 1) a (m + 1) := by
  have q0 : ∀ k, k < s → rotK p s (m - s) 1 k = p k := fun k hk => rot_lo hk
  have q1 : rotK p s (m - s) 1 s = p m := by rw [rot_1 (by omega) (by omega)]; congr 1; omega
  have q2 : ∀ k, s < k → k ≤ m → rotK p s (m - s) 1 k = p (k - 1) := fun k hk hk2 => rot_2 (by omega) (by omega)
  intro i j hi hij hj
  by_cases d1 : i < s
  · rw [q0 i d1]
    by_cases d2 : j < s
    · rw [q0 j d2]; exact A _ _ hi hij (by omega)
    · by_cases d3 : j = s
      · rw [d3, q1]
        have hx := x1.resolve_left (by omega)
        by_cases d4 : i = s - 1
        · rw [d4]; exact hx
        · exact ltK_trans (A i (s - 1) hi (by omega) (by omega)) hx
      · rw [q2 j (by omega) (by omega)]; exact A _ _ hi (by omega) (by omega)
  · by_cases d3 : i = s
    · rw [d3, q1, q2 j (by omega) (by omega)]
      have hx := x3.resolve_left (by omega)
      by_cases d4 : j - 1 = s
      · rw [d4]; exact hx
      · exact ltK_trans hx (A s (j - 1) (by omega) (by omega) (by omega))
    · rw [q2 i (by omega) (by omega), q2 j (by omega) (by omega)]; exact A _ _ (by omega) (by omega) (by omega)
/-- in order up to i, but for place j, which comes ahead of those behind it -/
def MidK (L : List Wri) (p : Nat → Nat) (a i j : Nat) : Prop := (∀ x y, a ≤ x → x < y → y ≤ i → x ≠ j → y ≠ j → ltK L (p x) (p y)) ∧ ∀ y, j < y → y ≤ i → ltK L (p j) (p y)
theorem swp_1 : swpK p (n + 1) n n = p (n + 1) := if_pos rfl
theorem swp_2 : swpK p (n + 1) n (n + 1) = p n := by unfold swpK; rw [if_neg (by omega), if_pos rfl]
theorem swp_o (h1 : x ≠ n) (h2 : x ≠ n + 1) : swpK p (n + 1) n x = p x := by unfold swpK; rw [if_neg h1, if_neg h2]
theorem midK_swp {i : Nat} (M : MidK L p a i (n + 1)) (h0 : a ≤ n) (hj : n + 1 ≤ i) (hlt : ltK L (p (n + 1)) (p n)) : MidK L (swpK p (n + 1) n) a i n := by
  constructor
  · intro x y hx hxy hy hx1 hy1
    by_cases e1 : y = n + 1
    · rw [e1, swp_2, swp_o hx1 (by omega)]
      exact M.1 x n hx (by omega) (by omega) (by omega) (by omega)
    · rw [swp_o hy1 e1]
      by_cases e2 : x = n + 1
      · rw [e2, swp_2]; exact M.1 n y h0 (by omega) hy (by omega) e1
      · rw [swp_o hx1 e2]; exact M.1 x y hx hxy hy e2 e1
  · intro y h1 h2
    rw [swp_1]
    by_cases e : y = n + 1
    · rw [e, swp_2]; exact hlt
    · rw [swp_o (by omega) e]; exact M.2 y (by omega) h2
theorem midK_done {i j : Nat} (M : MidK L p a i j) (hj : j ≤ i) (h : j = a ∨ ltK L (p (j - 1)) (p j)) (ha : a ≤ j) : Srt L p a (i + 1) := by
  intro x y hx hxy hy
  by_cases e1 : x = j
  · rw [e1]; exact M.2 y (by omega) (by omega)
  · by_cases e2 : y = j
    · rw [e2] at hxy ⊢
      have h := h.resolve_left (by omega)
      by_cases e3 : x = j - 1
      · rw [e3]; exact h
      · exact ltK_trans (M.1 x (j - 1) hx (by omega) (by omega) e1 (by omega)) h
    · exact M.1 x y hx hxy (by omega) e1 e2
theorem swp_per (h0 : a ≤ n) (hb : n + 1 < b) : Per p (swpK p (n + 1) n) a b := by
  constructor
  · intro k hk; exact swp_o (by omega) (by omega)
  · intro x
    constructor
    · rintro ⟨k, h1, h2, rfl⟩
      by_cases e1 : k = n
      · exact ⟨n + 1, by omega, by omega, by rw [e1, swp_1]⟩
      · by_cases e2 : k = n + 1
        · exact ⟨n, by omega, by omega, by rw [e2, swp_2]⟩
        · exact ⟨k, h1, h2, (swp_o e1 e2).symm⟩
    · rintro ⟨k, h1, h2, rfl⟩
      by_cases e1 : k = n
      · exact ⟨n + 1, by omega, by omega, by rw [e1, swp_2]⟩
      · by_cases e2 : k = n + 1
        · exact ⟨n, by omega, by omega, by rw [e2, swp_1]⟩
        · exact ⟨k, h1, h2, swp_o e1 e2⟩
def rwK (L : List Wri) (p : Nat → Nat) (n : Nat) : List Wri := (List.range n).map fun i => L.getD (p i) default
theorem rwK_len : (rwK L p n).length = n := by simp [rwK]
theorem rwK_getD (h : x < n) : (rwK L p n).getD x default = L.getD (p x) default := by simp [rwK, List.getD, h]
theorem rwK_set : ((rwK L p n).set a (L.getD (p b) default)).set b (L.getD (p a) default) = rwK L (swpK p a b) n := by
  refine List.ext_getElem (by simp [rwK]) fun i h1 h2 => ?_
  simp only [rwK, List.getElem_set, List.getElem_map, List.getElem_range, swpK]
  by_cases e : b = i
  · subst e; simp
  · rw [if_neg e, if_neg (Ne.symm e)]
    by_cases e2 : a = i
    · subst e2; simp
    · rw [if_neg e2, if_neg (Ne.symm e2)]
theorem rwK_id : rwK L (fun i => i) L.length = L := by
  refine List.ext_getElem (by simp [rwK]) fun i h1 h2 => ?_
  simp [rwK, List.getD, h2]
end
end Go.Ev

set_option maxRecDepth 100000
set_option maxHeartbeats 8000000
set_option linter.all false
namespace Go.Ev
open Go
theorem store_bufN {h : H} {el n : Nat} {v : V} {xs ys vs : List V} {j : Nat} (b : Buf h el n v xs) (tp : Top h v) (hj : j + vs.length ≤ xs.length) (hfit : xs.length < 2 ^ 36) (h1 : allOne vs = true) (hv : 0 < vs.length) (hly : ys.length = xs.length)
    (hys : ∀ i z, ys[i]? = some z → (j ≤ i ∧ vs[i - j]? = some z) ∨ ((i < j ∨ j + vs.length ≤ i) ∧ xs[i]? = some z)) :
    ∃ h', (∀ k, store h (lid v) (lg v) (loff v + j) (lfin v) vs k = k h') ∧ Buf h' el n v ys ∧ Top h' v ∧ Stay (isOf v) h h' := by
  rcases b with ⟨rfl, rfl⟩ | ⟨id, g, m, blk, rfl, b1, b2, b3, b4, b5, b6, b7, b8, b9, b10⟩
  · simp at hj; rw [hj.2] at hv; cases hv
  obtain ⟨blk', b5', hcur⟩ := tp id g 0 m xs.length none rfl
  have hbb : blk' = blk := by rw [b5] at b5'; exact (Option.some.inj b5').symm
  subst hbb
  obtain ⟨next, floor, heap⟩ := h
  obtain ⟨cur, min, sz, cells, bel, fr⟩ := blk'
  simp only at b6 b7 b8 b9 b10 hcur
  subst hcur; subst b9
  obtain ⟨tr, t1, t2, t3⟩ := setList_fine vs j cells (by omega)
  obtain ⟨hp, s1, s2, s3⟩ := setK_ok id (⟨cur, cur, sz, tr, bel, 0⟩ : Blk) heap
  have e1 : B.geB floor id = true := by cases floor <;> first | rfl | (show Nat.ble _ _ = true; rw [Nat.ble_eq]; exact b3)
  have e2 : Nat.ble (Nat.add j vs.length) xs.length = true := by rw [Nat.ble_eq]; exact hj
  have e4 : frOk 0 j = true := rfl
  have e5 : Nat.beq cur cur = true := Nat.beq_refl cur
  have e6 : Nat.ble min cur = true := by rw [Nat.ble_eq]; exact b6.1
  have b5'' : heap.get id = some ⟨cur, min, sz, cells, bel, 0⟩ := b5
  refine ⟨⟨next, floor, hp⟩, fun k => ?_, .inr ⟨id, cur, m, _, by rw [hly], b1, by rw [hly]; exact b2, b3, b4, s2, ⟨Nat.le_refl _, Nat.le_refl _⟩, by rw [hly]; exact b7, b8, rfl, fun i z hz => ?_⟩, fun _ _ _ _ _ _ e => by cases e; exact ⟨_, s2, rfl⟩, ⟨rfl, Nat.le_refl _, fun id' _ hne => s3 id' fun e => hne (by subst e; exact ⟨_, _, _, _, _, rfl⟩)⟩⟩
  · show store ⟨next, floor, heap⟩ id cur (0 + j) xs.length vs k = _
    rw [Nat.zero_add]
    simp only [store, hK_mk, b5'', optK_some, blkK_mk, e5, e6, e1, e2, h1, e4, ifK_true]
    rw [t1, s1]
  · show tr.getN i = some z
    rcases hys i z hz with ⟨h2, h3⟩ | ⟨h2, h3⟩
    · have := t2 (i - j) z h3
      rwa [show j + (i - j) = i by omega] at this
    · rw [t3 i (by omega)]
      exact b10 i z h3
theorem set_cells {α : Type} [Inhabited α] {n : Nat} {c : α → List V} (hc : ∀ e, (c e).length = n) (hn : 1 ≤ n) {L : List α} {j : Nat} (hj : j < L.length) {x : α} : ∀ i z, ((L.set j x).flatMap c)[i]? = some z → (j * n ≤ i ∧ (c x)[i - j * n]? = some z) ∨ ((i < j * n ∨ j * n + (c x).length ≤ i) ∧ (L.flatMap c)[i]? = some z) := by
  intro i z hz
  have hil : i < L.length * n := by
    have h1 := (List.getElem?_eq_some_iff.1 hz).1
    rw [fm_len hc, List.length_set] at h1; exact h1
  have hd : i % n < n := Nat.mod_lt _ hn
  have hi : i = i / n * n + i % n := by rw [Nat.mul_comm]; exact (Nat.div_add_mod i n).symm
  have hq : i / n < L.length := (Nat.div_lt_iff_lt_mul hn).2 hil
  generalize i / n = q at *
  generalize i % n = d at *
  subst hi
  rw [fm_get hc (by rw [List.length_set]; exact hq) hd] at hz
  by_cases e : q = j
  · left
    subst e
    refine ⟨by omega, ?_⟩
    rw [show q * n + d - q * n = d by omega, ← hz]
    have : (L.set q x).getD q default = x := by simp [List.getD, hq]
    rw [this]
    have hdl : d < (c x).length := by rw [hc]; exact hd
    simp [List.getD, hdl]
  · right
    rw [fm_get hc hq hd, ← hz]
    refine ⟨?_, ?_⟩
    · rw [hc]
      rcases Nat.lt_or_gt_of_ne e with h | h
      · left
        have : (q + 1) * n ≤ j * n := Nat.mul_le_mul_right n h
        rw [Nat.add_mul] at this; omega
      · right
        have : (j + 1) * n ≤ q * n := Nat.mul_le_mul_right n h
        rw [Nat.add_mul] at this; omega
    · have : (L.set j x).getD q default = L.getD q default := by
        rw [List.getD_eq_getElem?_getD, List.getElem?_set_ne (fun h => e h.symm), ← List.getD_eq_getElem?_getD]
      rw [this]
/-- l[j] = x, of structs, where l grew and is the newest of its block -/
theorem st_bufS {P : Program} {α : Type} [Inhabited α] {n el : Nat} {c : α → List V} {h : H} {N : Nx} {v : V} {L : List α} {j : Nat} {x : α} (b : Buf h el n v (L.flatMap c)) (tp : Top h v) (hc : ∀ e, (c e).length = n) (hn : 1 ≤ n) (hj : j < L.length) (hl : L.length * n < 2 ^ 36) (h1 : allOne (c x) = true)
    (k : ∀ h', Buf h' el n v ((L.set j x).flatMap c) → Top h' v → Stay (isOf v) h h' → N.go P (.tu []) h') : ST P n (.p (lid v) (lg v) (loff v + j * n) (lfin v)) (.a (c x)) h N := by
  have hjn : (j + 1) * n ≤ L.length * n := Nat.mul_le_mul_right n hj
  rw [Nat.add_mul] at hjn
  obtain ⟨h', a1, a2, a3, a4⟩ := store_bufN (j := j * n) (vs := c x) (ys := (L.set j x).flatMap c) b tp (by rw [hc, fm_len hc]; omega) (by rw [fm_len hc]; exact hl) h1 (by rw [hc]; omega) (by rw [fm_len hc, fm_len hc, List.length_set]) (set_cells hc hn hj)
  refine hm_of (v := .tu []) (h' := h') (fun k => ?_) (k h' a2 a3 a4)
  show ifK (Nat.beq (c x).length n) (fun _ => store h _ _ _ _ (c x) fun h => k (.tu []) h) = _
  rw [hc, Nat.beq_refl, ifK_true, a1]
end Go.Ev

set_option linter.all false
namespace Go.Ev
open Go
/-- less of a block's cells -/
theorem Own.pre {h : H} {id : B} {xs ys : List V} (o : Own h id (xs ++ ys)) : Own h id xs := by
  obtain ⟨blk, h1, h2, h3, h4, h5, h6, h7⟩ := o
  refine ⟨blk, h1, h2, h3, h4, h5, h6, fun i y hy => h7 i y ?_⟩
  have hi := (List.getElem?_eq_some_iff.1 hy).1
  rw [List.getElem?_append_left hi]; exact hy
theorem Own.none {h : H} {id : B} {xs : List V} (o : Own h id xs) : Own h id [] := Own.pre (xs := []) (ys := xs) o
/-- cells stored behind those that are known -/
theorem store_end {h : H} {id : B} {xs vs : List V} {fin : Nat} (o : Own h id xs) (hj : xs.length + vs.length ≤ fin) (hfit : fin < 2 ^ 37) (h1 : allOne vs = true) : ∃ h', (∀ k, store h id 0 xs.length fin vs k = k h') ∧ Own h' id (xs ++ vs) ∧ Stay (fun i => i = id) h h' := by
  obtain ⟨blk, a1, a2, a3, a4, a5, a6, a7⟩ := o
  obtain ⟨next, floor, heap⟩ := h
  obtain ⟨cur, min, sz, cells, bel, fr⟩ := blk
  simp only at a2 a3 a4 a7
  subst a2; subst a3; subst a4
  obtain ⟨tr, t1, t2, t3⟩ := setList_fine vs xs.length cells (by omega)
  obtain ⟨hp, s1, s2, s3⟩ := setK_ok id (⟨0, 0, sz, tr, bel, 0⟩ : Blk) heap
  have e1 : B.geB floor id = true := by cases floor <;> first | rfl | (show Nat.ble _ _ = true; rw [Nat.ble_eq]; exact a5)
  have e2 : Nat.ble (Nat.add xs.length vs.length) fin = true := by rw [Nat.ble_eq]; exact hj
  have e4 : frOk 0 xs.length = true := rfl
  have e5 : Nat.beq 0 0 = true := rfl
  have e6 : Nat.ble 0 0 = true := rfl
  have a1' : heap.get id = some ⟨0, 0, sz, cells, bel, 0⟩ := a1
  refine ⟨⟨next, floor, hp⟩, fun k => ?_, ⟨_, s2, rfl, rfl, rfl, a5, a6, fun i z hz => ?_⟩, ⟨rfl, Nat.le_refl _, fun i _ hi => s3 i hi⟩⟩
  · simp only [store, hK_mk, a1', optK_some, blkK_mk, e5, e6, e1, e2, h1, e4, ifK_true]
    rw [t1, s1]
  · show tr.getN i = some z
    by_cases hi : i < xs.length
    · rw [List.getElem?_append_left hi] at hz
      rw [t3 i (by omega)]; exact a7 i z hz
    · rw [List.getElem?_append_right (by omega)] at hz
      have := t2 _ z hz
      rwa [show xs.length + (i - xs.length) = i by omega] at this
section
variable {P : Program} {h : H} {N : Nx} {id : B} {el size cnt len c : Nat} {x : V} {xs vs : List V}
/-- in place: there is room -/
theorem AP.made (o : Own h id xs) (hlen : xs.length = len * size) (hx : ∀ k : Nat → List V → Bool, newCells size x h k = k cnt vs) (hn : vs.length = cnt * size) (h1 : allOne vs = true) (hc : len + cnt ≤ c) (hfit : c * size < 2 ^ 37) (hcb : c < 18446744073709551616)
    (k : ∀ h', Own h' id (xs ++ vs) → Stay (fun i => i = id) h h' → N.go P (.l id 0 0 (len + cnt) (c * size) (some c)) h') : AP P el size (.l id 0 0 len (c * size) (some c)) x h N := by
  have hle : Nat.ble (Nat.add len cnt) c = true := by rw [Nat.ble_eq]; exact hc
  have hmul := Nat.mul_le_mul_right size hc
  rw [Nat.add_mul] at hmul
  cases cnt with
  | zero =>
    have hv : vs = [] := List.eq_nil_of_length_eq_zero (by rw [hn, Nat.zero_mul])
    subst hv
    refine hm_of (v := .l id 0 0 (len + 0) (c * size) (some c)) (h' := h) (fun q => ?_) (k h (by rw [List.append_nil]; exact o) ⟨rfl, Nat.le_refl _, fun _ _ _ => rfl⟩)
    rw [hx]
    show boolK (flagB c) _ (fun _ => boolK (Nat.ble (Nat.add len 0) c) (fun _ => appIn id 0 0 len (c * size) c size 0 [] h q) _) = _
    rw [flagB_of hcb, boolK_false, hle]; rfl
  | succ m =>
    obtain ⟨h', a1, a2, a3⟩ := store_end o (vs := vs) (fin := c * size) (by omega) hfit h1
    refine hm_of (v := .l id 0 0 (len + (m + 1)) (c * size) (some c)) (h' := h') (fun q => ?_) (k h' a2 a3)
    rw [hx]
    show boolK (flagB c) _ (fun _ => boolK (Nat.ble (Nat.add len (m + 1)) c) (fun _ => appIn id 0 0 len (c * size) c size (m + 1) vs h q) _) = _
    rw [flagB_of hcb, boolK_false, hle]
    show store h id 0 (Nat.add 0 (Nat.mul len size)) (c * size) vs (fun h => fN (Nat.add len (m + 1)) fun l' => q (.l id 0 0 l' (c * size) (some c)) h) = _
    rw [show Nat.add 0 (Nat.mul len size) = xs.length by rw [hlen]; show 0 + len * size = _; omega, a1, fN_eq]
    rfl
/-- append(S{}, s...): a new block, or the empty one -/
theorem AP.e1 {g off fin : Nat} (hx : ∀ k : Nat → List V → Bool, newCells size x h k = k cnt vs) (hf : B.val h.floor ≤ B.val h.next) (hn : vs.length = cnt * size) (hl : cnt ≤ 1048576) (hl2 : vs.length < 2 ^ 38)
    (k0 : cnt = 0 → N.go P (.l id g off 0 fin (some 0)) h)
    (k : ∀ h', 1 ≤ cnt → Stay nowhere h h' → B.val h'.next = B.val h.next + 1 → Buf h' el size (.l h.next 0 0 cnt vs.length none) vs → Top h' (.l h.next 0 0 cnt vs.length none) → N.go P (.l h.next 0 0 cnt vs.length none) h') : AP P el size (.l id g off 0 fin (some 0)) x h N := by
  cases cnt with
  | zero =>
    have hv : vs = [] := List.eq_nil_of_length_eq_zero (by rw [hn, Nat.zero_mul])
    subst hv
    exact hm_of (v := .l id g off 0 fin (some 0)) (h' := h) (fun q => by rw [hx]; rfl) (k0 rfl)
  | succ m =>
  obtain ⟨h', a1, a2, a3, blk, b1, b2, b3, b4, b5, b6, b7⟩ := alloc_new el vs h hl2
  have hble : Nat.ble (Nat.add 0 (m + 1)) 1048576 = true := by rw [Nat.ble_eq]; show 0 + (m + 1) ≤ _; omega
  have hno : Nat.ble (Nat.add 0 (m + 1)) 0 = false := by
    cases hx : Nat.ble (Nat.add 0 (m + 1)) 0 with
    | false => rfl
    | true => have := Nat.le_of_ble_eq_true hx; have h2 : 0 + (m + 1) ≤ 0 := this; omega
  refine hm_of (v := .l h.next 0 0 (m + 1) vs.length none) (h' := h') (fun q => ?_) (k h' (by omega) a2 a3 (.inr ⟨h.next, 0, m + 1, blk, rfl, by omega, hn, by rw [a2.floor]; exact hf, by omega, b1, ⟨by omega, by omega⟩, b4, b5, b6, b7⟩) ?_)
  · rw [hx]
    show boolK (flagB 0) (fun _ => appGrow (selB (Nat.ble 1 0) (Nat.beq size 1)) el id g off 0 fin size (m + 1) vs h q) (fun _ => boolK (Nat.ble (Nat.add 0 (m + 1)) 0) (fun _ => appIn id g off 0 fin 0 size (m + 1) vs h q) fun _ => appOut el id g off 0 fin size (m + 1) vs h q) = _
    rw [flagB_of (by omega), boolK_false, hno, boolK_false]
    unfold appOut
    rw [hble, ifK_true]
    show alloc el (app [] vs) h (fun id h => fN (Nat.add 0 (m + 1)) fun l' => fN (Nat.mul l' size) fun fin' => q (.l id 0 0 l' fin' none) h) = _
    rw [app_eq, List.nil_append, a1, fN_eq, fN_eq]
    show q (.l h.next 0 0 (0 + (m + 1)) ((0 + (m + 1)) * size) none) h' = _
    rw [Nat.zero_add, ← hn]
  · intro id' g off n fin cap e
    cases e
    exact ⟨blk, b1, b3⟩
end
end Go.Ev

set_option maxRecDepth 100000
set_option maxHeartbeats 8000000
set_option linter.all false
namespace Go.Proofs.Ythncpgkpkdolfaa
open Go Go.Ev
theorem cloneW0_ok {h : H} : FnOk Try.prog 38 [.l0] h fun y h' => y = .l0 ∧ h' = h := by
  refine fn_go c38 (by intro hb; cases hb) (by simp) (by simp) fun Q hQ => ?_
  simp only [slotsF, Nat.reduceAdd]
  repeat' (first
    | refine St.h ?_
    | simp (disch := first | omega | (simp only [lnv]; omega)) only [wlk, ↓get_put', ↓reduceIte, seval]
    | (with_reducible (first | apply cd_split | apply gd_split)) <;> (intro hc; (try simp only [hcn] at hc); (try simp only [hc]); (try simp only [hcl] at hc); try omega))
  subst hQ
  exact ⟨rfl, rfl⟩
/-- a row of one's own that is the newest of its block -/
def Rw (h : H) (v : V) (M : List Wri) : Prop := Buf h 49 3 v (M.flatMap wriC) ∧ Top h v
theorem Rw.ws {h : H} {v : V} {M : List Wri} (a : Rw h v M) : Ws h v M := Ss.buf a.1 rfl wriC_len (by omega)
theorem Rw.grow {h h' : H} {v : V} {M : List Wri} (a : Rw h v M) (s : Stay nowhere h h') : Rw h' v M := ⟨a.1.grow s, a.2.stay s (fun q hq => (a.1.own hq).2) fun _ _ e => e⟩
/-- what comes of a clone of writes -/
def ClW (h h' : H) (y : V) (L : List Wri) : Prop := (L = [] ∧ Ws h' y [] ∧ SwN 3 y) ∨ (L ≠ [] ∧ Rw h' y L ∧ SwN 3 y ∧ ∀ q, isOf y q → B.val h.next ≤ B.val q)
theorem cloneW1_ok {h : H} {id : B} {gg off len fin : Nat} {cap : Option Nat} {L : List Wri} (hL : Ws h (.l id gg off len fin cap) L) (hl : L.length ≤ 100000) (hf : B.val h.floor ≤ B.val h.next) : FnOk Try.prog 38 [.l id gg off len fin cap] h fun y h' => ClW h h' y L ∧ Stay nowhere h h' := by
  refine fn_go c38 (by intro hb; cases hb) (by simp) (by simp) fun Q hQ => ?_
  simp only [slotsF, Nat.reduceAdd]
  repeat' (first
    | refine St.h ?_
    | simp (disch := first | omega | (simp only [lnv]; omega)) only [wlk, ↓get_put', ↓reduceIte, seval]
    | (with_reducible (first | apply cd_split | apply gd_split)) <;> (intro hc; (try simp only [hcn] at hc); (try simp only [hc]); (try simp only [hcl] at hc); try omega))
  refine AL.own (by simp) hf fun h1 s1 n1 o1 => ?_
  have hf1 := s1.fl hf
  repeat' (first
    | refine St.h ?_
    | simp (disch := first | omega | (simp only [lnv]; omega)) only [wlk, ↓get_put', ↓reduceIte, seval]
    | (with_reducible (first | apply cd_split | apply gd_split)) <;> (intro hc; (try simp only [hcn] at hc); (try simp only [hc]); (try simp only [hcl] at hc); try omega))
  refine AP.e1 (new_ss (hL.grow s1) wriC_len (by omega)) hf1 (fm_len wriC_len L) (by omega) (by rw [fm_len wriC_len L]; omega) (fun e => ?_) fun h2 e s2 n2 b2 tp2 => ?_
  · have : L = [] := List.eq_nil_of_length_eq_zero e
    subst this
    repeat' (first
      | refine St.h ?_
      | simp (disch := first | omega | (simp only [lnv]; omega)) only [wlk, ↓get_put', ↓reduceIte, seval]
      | (with_reducible (first | apply cd_split | apply gd_split)) <;> (intro hc; (try simp only [hcn] at hc); (try simp only [hc]); (try simp only [hcl] at hc); try omega))
    subst hQ
    exact ⟨.inl ⟨rfl, Ss.lit o1 rfl wriC_len rfl (by simp), .inr ⟨_, _, _, _, _, _, rfl, by simp⟩⟩, s1⟩
  · repeat' (first
      | refine St.h ?_
      | simp (disch := first | omega | (simp only [lnv]; omega)) only [wlk, ↓get_put', ↓reduceIte, seval]
      | (with_reducible (first | apply cd_split | apply gd_split)) <;> (intro hc; (try simp only [hcn] at hc); (try simp only [hc]); (try simp only [hcl] at hc); try omega))
    subst hQ
    refine ⟨.inr ⟨fun e2 => by rw [e2] at e; simp at e, ⟨b2, tp2⟩, swn_buf12 b2, ?_⟩, s1.trans s2⟩
    rintro q ⟨_, _, _, _, _, e⟩
    cases e; exact s1.next
theorem cloneW_ok {h : H} {v : V} {L : List Wri} (hL : Ws h v L) (hl : L.length ≤ 100000) (hf : B.val h.floor ≤ B.val h.next) : FnOk Try.prog 38 [v] h fun y h' => ClW h h' y L ∧ Stay nowhere h h' := by
  have hL0 := hL
  rcases hL with ⟨rfl, rfl⟩ | ⟨id, gg, off, fin, cap, rfl, hh⟩
  · exact cloneW0_ok.mono fun y h' ⟨a, b⟩ => by rw [a, b]; exact ⟨.inl ⟨rfl, Ss.nil, .inl rfl⟩, Stay.refl _ _⟩
  · exact cloneW1_ok hL0 hl hf
theorem bcmp_ok {h : H} {x y : List UInt8} : FnOk Try.prog 59 [sv x, sv y] h fun z h' => z = .i .i64 (cmpI (decide (x = y)) (Op.bytesLess x y)) ∧ h' = h := by
  refine fn_go c59 (by intro hb; cases hb) (by simp) (by simp) fun Q hQ => ?_
  simp only [slotsF, Nat.reduceAdd]
  repeat' (first
    | refine St.h ?_
    | simp (disch := first | omega | (simp only [lnv]; omega)) only [wlk, ↓get_put', ↓reduceIte, seval]
    | (with_reducible (first | apply cd_split | apply gd_split)) <;> (intro hc; (try simp only [hcn] at hc); (try simp only [hc]); (try simp only [hcl] at hc); try omega))
  subst hQ
  exact ⟨rfl, rfl⟩
theorem scompare_ok {h : H} {x y : List UInt8} : FnOk Try.prog 52 [sv x, sv y] h fun z h' => z = .i .i64 (cmpI (decide (x = y)) (Op.bytesLess x y)) ∧ h' = h := by
  refine fn_go c52 (by intro hb; cases hb) (by simp) (by simp) fun Q hQ => ?_
  simp only [slotsF, Nat.reduceAdd]
  repeat' (first
    | refine St.h ?_
    | simp (disch := first | omega | (simp only [lnv]; omega)) only [wlk, ↓get_put', ↓reduceIte, seval]
    | (with_reducible (first | apply cd_split | apply gd_split)) <;> (intro hc; (try simp only [hcn] at hc); (try simp only [hc]); (try simp only [hcl] at hc); try omega))
  refine CL.pure bcmp_ok ?_
  repeat' (first
    | refine St.h ?_
    | simp (disch := first | omega | (simp only [lnv]; omega)) only [wlk, ↓get_put', ↓reduceIte, seval]
    | (with_reducible (first | apply cd_split | apply gd_split)) <;> (intro hc; (try simp only [hcn] at hc); (try simp only [hc]); (try simp only [hcl] at hc); try omega))
  subst hQ
  exact ⟨rfl, rfl⟩
def cmpW (a b : Wri) : Int := cmpI (decide (a.key = b.key)) (Op.bytesLess a.key b.key)
theorem cmpW_t {L : List Wri} {x y : Nat} (h : klK L x y = true) : (cmpW (L.getD x default) (L.getD y default) < 0) = True := by
  unfold klK at h
  unfold cmpW; rw [h, decide_eq_false (bl_ne h)]; exact eq_true (by decide)
theorem cmpW_f {L : List Wri} {x y : Nat} (h : klK L x y = false) : (cmpW (L.getD x default) (L.getD y default) < 0) = False := by
  unfold klK at h
  unfold cmpW; rw [h]
  by_cases e : (L.getD x default).key = (L.getD y default).key
  · rw [decide_eq_true e]; exact eq_false (by decide)
  · rw [decide_eq_false e]; exact eq_false (by decide)
theorem byKey12_ok {h : H} {a b : Wri} (hf : B.val h.floor ≤ B.val h.next) : FnOk Try.prog 40 [.a [sv a.key, .b a.del, sv a.val], .a [sv b.key, .b b.del, sv b.val]] h fun y h' => y = .i .i64 (cmpW a b) ∧ Stay nowhere h h' := by
  refine fn_go c40 (by intro hb; cases hb) (by simp) (by simp) fun Q hQ => ?_
  simp only [slotsF, Nat.reduceAdd]
  repeat' (first
    | refine St.h ?_
    | simp (disch := first | omega | (simp only [lnv]; omega)) only [wlk, ↓get_put', ↓reduceIte, seval]
    | (with_reducible (first | apply cd_split | apply gd_split)) <;> (intro hc; (try simp only [hcn] at hc); (try simp only [hc]); (try simp only [hcl] at hc); try omega))
  refine AL.own (by simp) hf fun h1 s1 n1 o1 => ?_
  repeat' (first
    | refine St.h ?_
    | simp (disch := first | omega | (simp only [lnv]; omega)) only [wlk, ↓get_put', ↓reduceIte, seval]
    | (with_reducible (first | apply cd_split | apply gd_split)) <;> (intro hc; (try simp only [hcn] at hc); (try simp only [hc]); (try simp only [hcl] at hc); try omega))
  refine AL.own (by simp) (s1.fl hf) fun h2 s2 n2 o2 => ?_
  have o1 := o1.stay s2 fun h => h
  repeat' (first
    | refine St.h ?_
    | simp (disch := first | omega | (simp only [lnv]; omega)) only [wlk, ↓get_put', ↓reduceIte, seval, o1.row.l1, o2.row.l1]
    | (with_reducible (first | apply cd_split | apply gd_split)) <;> (intro hc; (try simp only [hcn] at hc); (try simp only [hc]); (try simp only [hcl] at hc); try omega))
  refine CL.pure scompare_ok ?_
  repeat' (first
    | refine St.h ?_
    | simp (disch := first | omega | (simp only [lnv]; omega)) only [wlk, ↓get_put', ↓reduceIte, seval]
    | (with_reducible (first | apply cd_split | apply gd_split)) <;> (intro hc; (try simp only [hcn] at hc); (try simp only [hc]); (try simp only [hcl] at hc); try omega))
  subst hQ
  exact ⟨rfl, s1.trans s2⟩
section
variable {L : List Wri} {N : Nat} {c : V}
theorem swapR_ok {h : H} {v : V} {p : Nat → Nat} {a b k : Nat} (hb : Rw h v (rwK L p N)) (hN : N ≤ 1000) (h1 : a + k ≤ b) (h2 : b + k ≤ N) (hf : B.val h.floor ≤ B.val h.next) : FnOk Try.prog 62 [v, .i .i64 (a : Int), .i .i64 (b : Int), .i .i64 (k : Int), c] h fun y h' =>
    Rw h' v (rwK L (blcK p a b k) N) ∧ Stay (isOf v) h h' := by
  refine fn_go c62 (by intro hb; cases hb) (by simp) (by simp) fun Q hQ => ?_
  simp only [slotsF, Nat.reduceAdd]
  repeat' (first
    | refine St.h ?_
    | simp (disch := first | omega | (simp only [lnv]; omega)) only [wlk, ↓get_put', ↓reduceIte, seval]
    | (with_reducible (first | apply cd_split | apply gd_split)) <;> (intro hc; (try simp only [hcn] at hc); (try simp only [hc]); (try simp only [hcl] at hc); try omega))
  refine Ok.lp (fun m t g => ∃ i : Nat, m = k - i ∧ i ≤ k ∧ get 0 t = v ∧ get 1 t = .i .i64 (a : Int) ∧ get 2 t = .i .i64 (b : Int) ∧ get 3 t = .i .i64 (k : Int) ∧ get 10 t = .i .i64 (i : Int) ∧ Rw g v (rwK L (blcK p a b i) N) ∧ Stay (isOf v) h g) k ?_ ?_
  · simp (disch := first | omega | (simp only [lnv]; omega)) only [wlk, ↓get_put', ↓reduceIte, seval]
    refine ⟨0, by omega, by omega, ?_⟩
    refine ⟨?_, ?_, ?_, ?_, ?_, by rw [blc_zero]; exact hb, ⟨rfl, Nat.le_refl _, fun _ _ _ => rfl⟩⟩
    all_goals first | trivial | rfl
  rintro I hI m t g ⟨i, rfl, hi, f0, f1, f2, f3, f10, rb, st⟩
  have hfg := st.fl hf
  by_cases hik : i < k
  case neg =>
    obtain rfl : i = k := by omega
    repeat' (first
      | refine St.h ?_
      | simp (disch := first | omega | (simp only [lnv]; omega)) only [wlk, ↓get_put', ↓reduceIte, seval, f0, f1, f2, f3, f10]
      | (with_reducible (first | apply cd_split | apply gd_split)) <;> (intro hc; (try simp only [hcn] at hc); (try simp only [hc]); (try simp only [hcl] at hc); try omega))
    subst hQ
    exact ⟨rb, st⟩
  have ea : ((a : Int) + (i : Int)).toNat = a + i := by omega
  have eb : ((b : Int) + (i : Int)).toNat = b + i := by omega
  have W1 := rb.ws
  have ln : (rwK L (blcK p a b i) N).length = N := rwK_len
  have ga : (rwK L (blcK p a b i) N).getD (a + i) default = L.getD (blcK p a b i (a + i)) default := rwK_getD (by omega)
  have gb : (rwK L (blcK p a b i) N).getD (b + i) default = L.getD (blcK p a b i (b + i)) default := rwK_getD (by omega)
  repeat' (first
    | refine St.h ?_
    | simp (disch := first | omega | (simp only [lnv]; omega)) only [wlk, ↓get_put', ↓reduceIte, seval, f0, f1, f2, f3, f10, W1.ix, W1.la, ea, eb, ga, gb, Int.toNat_natCast]
    | (with_reducible (first | apply cd_split | apply gd_split)) <;> (intro hc; (try simp only [hcn] at hc); (try simp only [hc]); (try simp only [hcl] at hc); try omega))
  refine st_bufS (c := wriC) (x := L.getD (blcK p a b i (b + i)) default) rb.1 rb.2 wriC_len (by omega) (by omega) (by omega) rfl fun h3 B3 T3 s3 => ?_
  have W3 : Ws h3 v ((rwK L (blcK p a b i) N).set (a + i) (L.getD (blcK p a b i (b + i)) default)) := Ss.buf B3 rfl wriC_len (by omega)
  repeat' (first
    | refine St.h ?_
    | simp (disch := first | omega | (simp only [lnv]; omega)) only [wlk, ↓get_put', ↓reduceIte, seval, f0, f1, f2, f3, f10, eb, W3.ix]
    | (with_reducible (first | apply cd_split | apply gd_split)) <;> (intro hc; (try simp only [hcn] at hc); (try simp only [hc]); (try simp only [hcl] at hc); try omega))
  refine st_bufS (c := wriC) (x := L.getD (blcK p a b i (a + i)) default) B3 T3 wriC_len (by omega) (by rw [List.length_set]; omega) (by rw [List.length_set]; omega) rfl fun h4 B4 T4 s4 => ?_
  rw [rwK_set, blc_succ (by omega)] at B4
  repeat' (first
    | refine St.h ?_
    | simp (disch := first | omega | (simp only [lnv]; omega)) only [wlk, ↓get_put', ↓reduceIte, seval, f0, f1, f2, f3, f10]
    | (with_reducible (first | apply cd_split | apply gd_split)) <;> (intro hc; (try simp only [hcn] at hc); (try simp only [hc]); (try simp only [hcl] at hc); try omega))
  refine lp_next hI (k - (i + 1)) (by omega) ⟨i + 1, rfl, by omega, by simp (disch := first | omega | (simp only [lnv]; omega)) only [wlk, ↓get_put', ↓reduceIte, seval, f0], by simp (disch := first | omega | (simp only [lnv]; omega)) only [wlk, ↓get_put', ↓reduceIte, seval, f1], by simp (disch := first | omega | (simp only [lnv]; omega)) only [wlk, ↓get_put', ↓reduceIte, seval, f2], by simp (disch := first | omega | (simp only [lnv]; omega)) only [wlk, ↓get_put', ↓reduceIte, seval, f3], by simp (disch := first | omega | (simp only [lnv]; omega)) only [wlk, ↓get_put', ↓reduceIte, seval, f10]; rfl, ⟨B4, T4⟩, st.trans (s3.trans s4)⟩
theorem rot_ok {h : H} {v : V} {p : Nat → Nat} {a m b : Nat} (hb : Rw h v (rwK L p N)) (hN : N ≤ 1000) (h1 : a < m) (h2 : m < b) (h3 : b ≤ N) (hf : B.val h.floor ≤ B.val h.next) : FnOk Try.prog 60 [v, .i .i64 (a : Int), .i .i64 (m : Int), .i .i64 (b : Int), c] h fun y h' =>
    Rw h' v (rwK L (rotK p a (m - a) (b - m)) N) ∧ Stay (isOf v) h h' := by
  have e1 : (m : Int) - (a : Int) = ((m - a : Nat) : Int) := by omega
  have e2 : (b : Int) - (m : Int) = ((b - m : Nat) : Int) := by omega
  refine fn_go c60 (by intro hb; cases hb) (by simp) (by simp) fun Q hQ => ?_
  simp only [slotsF, Nat.reduceAdd]
  repeat' (first
    | refine St.h ?_
    | simp (disch := first | omega | (simp only [lnv]; omega)) only [wlk, ↓get_put', ↓reduceIte, seval]
    | (with_reducible (first | apply cd_split | apply gd_split)) <;> (intro hc; (try simp only [hcn] at hc); (try simp only [hc]); (try simp only [hcl] at hc); try omega))
  refine Ok.lp (fun k t g => ∃ (i j : Nat) (q : Nat → Nat), k = i + j ∧ 1 ≤ i ∧ 1 ≤ j ∧ i ≤ m - a ∧ j ≤ b - m ∧ get 0 t = v ∧ get 2 t = .i .i64 (m : Int) ∧ get 4 t = c ∧ get 10 t = .i .i64 (i : Int) ∧ get 11 t = .i .i64 (j : Int) ∧ rotK q (m - i) i j = rotK p a (m - a) (b - m) ∧ Rw g v (rwK L q N) ∧ Stay (isOf v) h g) (b - a) ?_ ?_
  · simp (disch := first | omega | (simp only [lnv]; omega)) only [wlk, ↓get_put', ↓reduceIte, seval, e1, e2]
    refine ⟨m - a, b - m, p, by omega, by omega, by omega, by omega, by omega, ?_⟩
    refine ⟨?_, ?_, ?_, ?_, ?_, by rw [show m - (m - a) = a by omega], hb, ⟨rfl, Nat.le_refl _, fun _ _ _ => rfl⟩⟩
    all_goals first | trivial | rfl
  rintro I hI k t g ⟨i, j, q, rfl, hi, hj, hi2, hj2, f0, f2, f4, f10, f11, hr, rb, st⟩
  have hfg := st.fl hf
  have em : (m : Int) - (i : Int) = ((m - i : Nat) : Int) := by omega
  by_cases hij : i = j
  · subst hij
    have d1 : ((i : Int) = (i : Int)) = True := eq_true rfl
    repeat' (first
      | refine St.h ?_
      | simp (disch := first | omega | (simp only [lnv]; omega)) only [wlk, ↓get_put', ↓reduceIte, seval, f0, f2, f4, f10, f11, d1, em]
      | (with_reducible (first | apply cd_split | apply gd_split)) <;> (intro hc; (try simp only [hcn] at hc); (try simp only [hc]); (try simp only [hcl] at hc); try omega))
    refine CL.mk (swapR_ok (c := c) (a := m - i) (b := m) (k := i) rb hN (by omega) (by omega) hfg) ?_
    rintro y g1 ⟨rb1, s1⟩
    repeat' (first
      | refine St.h ?_
      | simp (disch := first | omega | (simp only [lnv]; omega)) only [wlk, ↓get_put', ↓reduceIte, seval]
      | (with_reducible (first | apply cd_split | apply gd_split)) <;> (intro hc; (try simp only [hcn] at hc); (try simp only [hc]); (try simp only [hcl] at hc); try omega))
    subst hQ
    have := rot_eq (p := q) (s := m - i) (i := i)
    rw [show m - i + i = m by omega, hr] at this
    rw [this] at rb1
    exact ⟨rb1, st.trans s1⟩
  have d1 : ((i : Int) = (j : Int)) = False := eq_false (by omega)
  by_cases hgt : j < i
  · have d2 : ((j : Int) < (i : Int)) = True := eq_true (by omega)
    have e3 : (i : Int) - (j : Int) = ((i - j : Nat) : Int) := by omega
    repeat' (first
      | refine St.h ?_
      | simp (disch := first | omega | (simp only [lnv]; omega)) only [wlk, ↓get_put', ↓reduceIte, seval, f0, f2, f4, f10, f11, d1, d2, em]
      | (with_reducible (first | apply cd_split | apply gd_split)) <;> (intro hc; (try simp only [hcn] at hc); (try simp only [hc]); (try simp only [hcl] at hc); try omega))
    refine CL.mk (swapR_ok (c := c) (a := m - i) (b := m) (k := j) rb hN (by omega) (by omega) hfg) ?_
    rintro y g1 ⟨rb1, s1⟩
    repeat' (first
      | refine St.h ?_
      | simp (disch := first | omega | (simp only [lnv]; omega)) only [wlk, ↓get_put', ↓reduceIte, seval, f0, f2, f4, f10, f11]
      | (with_reducible (first | apply cd_split | apply gd_split)) <;> (intro hc; (try simp only [hcn] at hc); (try simp only [hc]); (try simp only [hcl] at hc); try omega))
    refine lp_next hI (i - j + j) (by omega) ⟨i - j, j, _, rfl, by omega, by omega, by omega, by omega, by simp (disch := first | omega | (simp only [lnv]; omega)) only [wlk, ↓get_put', ↓reduceIte, seval, f0], by simp (disch := first | omega | (simp only [lnv]; omega)) only [wlk, ↓get_put', ↓reduceIte, seval, f2], by simp (disch := first | omega | (simp only [lnv]; omega)) only [wlk, ↓get_put', ↓reduceIte, seval, f4], by simp (disch := first | omega | (simp only [lnv]; omega)) only [wlk, ↓get_put', ↓reduceIte, seval, e3], by simp (disch := first | omega | (simp only [lnv]; omega)) only [wlk, ↓get_put', ↓reduceIte, seval, f11], ?_, rb1, st.trans s1⟩
    have := rot_gt (p := q) (s := m - i) hgt
    rw [show m - i + i = m by omega, show m - i + j = m - (i - j) by omega] at this
    rw [this]; exact hr
  · have d2 : ((j : Int) < (i : Int)) = False := eq_false (by omega)
    have e3 : (j : Int) - (i : Int) = ((j - i : Nat) : Int) := by omega
    have e4 : (m : Int) + (j : Int) - (i : Int) = ((m + j - i : Nat) : Int) := by omega
    repeat' (first
      | refine St.h ?_
      | simp (disch := first | omega | (simp only [lnv]; omega)) only [wlk, ↓get_put', ↓reduceIte, seval, f0, f2, f4, f10, f11, d1, d2, em, e4]
      | (with_reducible (first | apply cd_split | apply gd_split)) <;> (intro hc; (try simp only [hcn] at hc); (try simp only [hc]); (try simp only [hcl] at hc); try omega))
    refine CL.mk (swapR_ok (c := c) (a := m - i) (b := m + j - i) (k := i) rb hN (by omega) (by omega) hfg) ?_
    rintro y g1 ⟨rb1, s1⟩
    repeat' (first
      | refine St.h ?_
      | simp (disch := first | omega | (simp only [lnv]; omega)) only [wlk, ↓get_put', ↓reduceIte, seval, f0, f2, f4, f10, f11]
      | (with_reducible (first | apply cd_split | apply gd_split)) <;> (intro hc; (try simp only [hcn] at hc); (try simp only [hc]); (try simp only [hcl] at hc); try omega))
    refine lp_next hI (i + (j - i)) (by omega) ⟨i, j - i, _, rfl, by omega, by omega, by omega, by omega, by simp (disch := first | omega | (simp only [lnv]; omega)) only [wlk, ↓get_put', ↓reduceIte, seval, f0], by simp (disch := first | omega | (simp only [lnv]; omega)) only [wlk, ↓get_put', ↓reduceIte, seval, f2], by simp (disch := first | omega | (simp only [lnv]; omega)) only [wlk, ↓get_put', ↓reduceIte, seval, f4], by simp (disch := first | omega | (simp only [lnv]; omega)) only [wlk, ↓get_put', ↓reduceIte, seval, f10], by simp (disch := first | omega | (simp only [lnv]; omega)) only [wlk, ↓get_put', ↓reduceIte, seval, e3], ?_, rb1, st.trans s1⟩
    have := rot_lt (p := q) (s := m - i) (show i < j by omega)
    rw [show m - i + j = m + j - i by omega] at this
    rw [this]; exact hr
theorem isortW_ok {h : H} {v : V} {p : Nat → Nat} {a b : Nat} (hb : Rw h v (rwK L p N)) (hN : N ≤ 1000) (h1 : a ≤ b) (h2 : b ≤ N) (hp : ∀ k, a ≤ k → k < b → p k = k) (hf : B.val h.floor ≤ B.val h.next) : FnOk Try.prog 57 [v, .i .i64 (a : Int), .i .i64 (b : Int), .f 40 []] h fun y h' =>
    ∃ q, Per p q a b ∧ Srt L q a b ∧ Rw h' v (rwK L q N) ∧ Stay (isOf v) h h' := by
  refine fn_go c57 (by intro hb; cases hb) (by simp) (by simp) fun Q hQ => ?_
  simp only [slotsF, Nat.reduceAdd]
  repeat' (first
    | refine St.h ?_
    | simp (disch := first | omega | (simp only [lnv]; omega)) only [wlk, ↓get_put', ↓reduceIte, seval]
    | (with_reducible (first | apply cd_split | apply gd_split)) <;> (intro hc; (try simp only [hcn] at hc); (try simp only [hc]); (try simp only [hcl] at hc); try omega))
  by_cases hab : a < b
  case neg =>
    refine Ok.lp (fun m t g => m = 0 ∧ h = g ∧ get 2 t = .i .i64 (b : Int) ∧ get 8 t = .i .i64 ((a : Int) + 1)) 0 ?_ ?_
    · simp (disch := first | omega | (simp only [lnv]; omega)) only [wlk, ↓get_put', ↓reduceIte, seval]
      repeat' (first | trivial | rfl | refine And.intro ?_ ?_)
    rintro I hI m t g ⟨rfl, rfl, f2, f8⟩
    have d1 : ((a : Int) + 1 < (b : Int)) = False := eq_false (by omega)
    repeat' (first
      | refine St.h ?_
      | simp (disch := first | omega | (simp only [lnv]; omega)) only [wlk, ↓get_put', ↓reduceIte, seval, f2, f8, d1]
      | (with_reducible (first | apply cd_split | apply gd_split)) <;> (intro hc; (try simp only [hcn] at hc); (try simp only [hc]); (try simp only [hcl] at hc); try omega))
    subst hQ
    exact ⟨p, Per.refl, fun i j h1 h2 h3 => by omega, hb, ⟨rfl, Nat.le_refl _, fun _ _ _ => rfl⟩⟩
  refine Ok.lp (fun m t g => ∃ (i : Nat) (q : Nat → Nat), m = b - i ∧ a + 1 ≤ i ∧ i ≤ b ∧ get 0 t = v ∧ get 1 t = .i .i64 (a : Int) ∧ get 2 t = .i .i64 (b : Int) ∧ get 3 t = .f 40 [] ∧ get 8 t = .i .i64 (i : Int) ∧ Per p q a i ∧ Srt L q a i ∧ Rw g v (rwK L q N) ∧ Stay (isOf v) h g) (b - (a + 1)) ?_ ?_
  · simp (disch := first | omega | (simp only [lnv]; omega)) only [wlk, ↓get_put', ↓reduceIte, seval]
    refine ⟨a + 1, p, by omega, by omega, by omega, ?_⟩
    refine ⟨?_, ?_, ?_, ?_, ?_, Per.refl, fun i j h1 h2 h3 => by omega, hb, ⟨rfl, Nat.le_refl _, fun _ _ _ => rfl⟩⟩
    all_goals first | trivial | rfl
  rintro I hI m t g ⟨i, q, rfl, hi1, hi2, f0, f1, f2, f3, f8, hper, hs, rb, st⟩
  have hfg := st.fl hf
  by_cases hib : i < b
  case neg =>
    obtain rfl : i = b := by omega
    repeat' (first
      | refine St.h ?_
      | simp (disch := first | omega | (simp only [lnv]; omega)) only [wlk, ↓get_put', ↓reduceIte, seval, f0, f1, f2, f3, f8]
      | (with_reducible (first | apply cd_split | apply gd_split)) <;> (intro hc; (try simp only [hcn] at hc); (try simp only [hc]); (try simp only [hcl] at hc); try omega))
    subst hQ
    exact ⟨q, hper, hs, rb, st⟩
  have hqi : q i = i := by rw [hper.out i (.inr (Nat.le_refl _)), hp i (by omega) hib]
  have hql : ∀ k, a ≤ k → k < i → q k < i := fun k k1 k2 => by
    obtain ⟨j, j1, j2, j3⟩ := (hper.mem (q k)).1 ⟨k, k1, k2, rfl⟩
    rw [← j3, hp j j1 (by omega)]; exact j2
  repeat' (first
    | refine St.h ?_
    | simp (disch := first | omega | (simp only [lnv]; omega)) only [wlk, ↓get_put', ↓reduceIte, seval, f0, f1, f2, f3, f8]
    | (with_reducible (first | apply cd_split | apply gd_split)) <;> (intro hc; (try simp only [hcn] at hc); (try simp only [hc]); (try simp only [hcl] at hc); try omega))
  refine Ok.lp (fun m t g => ∃ (j : Nat) (q : Nat → Nat), m = j ∧ a ≤ j ∧ j ≤ i ∧ get 0 t = v ∧ get 1 t = .i .i64 (a : Int) ∧ get 2 t = .i .i64 (b : Int) ∧ get 3 t = .f 40 [] ∧ get 8 t = .i .i64 (i : Int) ∧ get 9 t = .i .i64 (j : Int) ∧ MidK L q a i j ∧ Per p q a (i + 1) ∧ q j = i ∧ (∀ k, a ≤ k → k ≤ i → k ≠ j → q k < i) ∧ Rw g v (rwK L q N) ∧ Stay (isOf v) h g) i ?_ ?_
  · simp (disch := first | omega | (simp only [lnv]; omega)) only [wlk, ↓get_put', ↓reduceIte, seval, f0, f1, f2, f3, f8]
    refine ⟨i, q, by omega, by omega, by omega, ?_⟩
    refine ⟨?_, ?_, ?_, ?_, ?_, ?_, ⟨fun x y x1 x2 x3 x4 x5 => hs x y x1 x2 (by omega), fun y y1 y2 => by omega⟩, hper.wide (Nat.le_refl _) (by omega), hqi, fun k k1 k2 k3 => hql k k1 (by omega), rb, st⟩
    all_goals first | trivial | rfl
  rintro I2 hI2 m2 t2 g2 ⟨j, q2, rfl, hj1, hj2, e0, e1, e2, e3, e8, e9, hM, hper2, hqj, hql2, rb2, st2⟩
  have hfg2 := st2.fl hf
  have done : ∀ g3, Rw g3 v (rwK L q2 N) → Stay (isOf v) h g3 → (m2 = a ∨ ltK L (q2 (m2 - 1)) (q2 m2)) → ∀ t3 : F, get 0 t3 = v → get 1 t3 = .i .i64 (a : Int) → get 2 t3 = .i .i64 (b : Int) → get 3 t3 = .f 40 [] → get 8 t3 = .i .i64 ((i + 1 : Nat) : Int) → LpG I (b - i) t3 g3 := fun g3 r3 s3 hd t3 x0 x1 x2 x3 x8 => by
    exact lp_next hI (b - (i + 1)) (by omega) ⟨i + 1, q2, rfl, by omega, by omega, x0, x1, x2, x3, x8, hper2, midK_done hM hj2 hd hj1, r3, s3⟩
  by_cases hja : a < m2
  case neg =>
    obtain rfl : m2 = a := by omega
    have d1 : ((m2 : Int) < (m2 : Int)) = False := eq_false (by omega)
    repeat' (first
      | refine St.h ?_
      | simp (disch := first | omega | (simp only [lnv]; omega)) only [wlk, ↓get_put', ↓reduceIte, seval, e0, e1, e2, e3, e8, e9, d1]
      | (with_reducible (first | apply cd_split | apply gd_split)) <;> (intro hc; (try simp only [hcn] at hc); (try simp only [hc]); (try simp only [hcl] at hc); try omega))
    exact done _ rb2 st2 (.inl rfl) _ (by simp (disch := first | omega | (simp only [lnv]; omega)) only [wlk, ↓get_put', ↓reduceIte, seval, e0]) (by simp (disch := first | omega | (simp only [lnv]; omega)) only [wlk, ↓get_put', ↓reduceIte, seval, e1]) (by simp (disch := first | omega | (simp only [lnv]; omega)) only [wlk, ↓get_put', ↓reduceIte, seval, e2]) (by simp (disch := first | omega | (simp only [lnv]; omega)) only [wlk, ↓get_put', ↓reduceIte, seval, e3]) (by simp (disch := first | omega | (simp only [lnv]; omega)) only [wlk, ↓get_put', ↓reduceIte, seval, e8]; rfl)
  have d1 : ((a : Int) < (m2 : Int)) = True := eq_true (by omega)
  obtain ⟨n, rfl⟩ : ∃ n, m2 = n + 1 := ⟨m2 - 1, by omega⟩
  have en : (((n + 1 : Nat) : Int) - 1).toNat = n := by omega
  have W2 := rb2.ws
  have ln : (rwK L q2 N).length = N := rwK_len
  have ga : (rwK L q2 N).getD (n + 1) default = L.getD (q2 (n + 1)) default := rwK_getD (by omega)
  have gb : (rwK L q2 N).getD n default = L.getD (q2 n) default := rwK_getD (by omega)
  repeat' (first
    | refine St.h ?_
    | simp (disch := first | omega | (simp only [lnv]; omega)) only [wlk, ↓get_put', ↓reduceIte, seval, e0, e1, e2, e3, e8, e9, d1, W2.ix, W2.la, en, ga, gb, Int.toNat_natCast]
    | (with_reducible (first | apply cd_split | apply gd_split)) <;> (intro hc; (try simp only [hcn] at hc); (try simp only [hc]); (try simp only [hcl] at hc); try omega))
  refine CL.stay (byKey12_ok (a := L.getD (q2 (n + 1)) default) (b := L.getD (q2 n) default) hfg2) fun g3 s3 => ?_
  have rb3 := rb2.grow s3
  have st3 := st2.trans (s3.mono fun _ _ hq => hq.elim)
  have W3 := rb3.ws
  cases hk : klK L (q2 (n + 1)) (q2 n) with
  | false =>
    have d2 := cmpW_f hk
    repeat' (first
      | refine St.h ?_
      | simp (disch := first | omega | (simp only [lnv]; omega)) only [wlk, ↓get_put', ↓reduceIte, seval, e0, e1, e2, e3, e8, e9, d1, d2]
      | (with_reducible (first | apply cd_split | apply gd_split)) <;> (intro hc; (try simp only [hcn] at hc); (try simp only [hc]); (try simp only [hcl] at hc); try omega))
    refine done _ rb3 st3 (.inr (ltK_no hk fun _ => ?_)) _ (by simp (disch := first | omega | (simp only [lnv]; omega)) only [wlk, ↓get_put', ↓reduceIte, seval, e0]) (by simp (disch := first | omega | (simp only [lnv]; omega)) only [wlk, ↓get_put', ↓reduceIte, seval, e1]) (by simp (disch := first | omega | (simp only [lnv]; omega)) only [wlk, ↓get_put', ↓reduceIte, seval, e2]) (by simp (disch := first | omega | (simp only [lnv]; omega)) only [wlk, ↓get_put', ↓reduceIte, seval, e3]) (by simp (disch := first | omega | (simp only [lnv]; omega)) only [wlk, ↓get_put', ↓reduceIte, seval, e8]; rfl)
    rw [hqj]; exact hql2 n (by omega) (by omega) (by omega)
  | true =>
    have d2 := cmpW_t hk
    repeat' (first
      | refine St.h ?_
      | simp (disch := first | omega | (simp only [lnv]; omega)) only [wlk, ↓get_put', ↓reduceIte, seval, e0, e1, e2, e3, e8, e9, d1, d2, W3.ix, W3.la, en, ga, gb, Int.toNat_natCast]
      | (with_reducible (first | apply cd_split | apply gd_split)) <;> (intro hc; (try simp only [hcn] at hc); (try simp only [hc]); (try simp only [hcl] at hc); try omega))
    refine st_bufS (c := wriC) (x := L.getD (q2 n) default) rb3.1 rb3.2 wriC_len (by omega) (by omega) (by omega) rfl fun h3 B3 T3 s4 => ?_
    have W4 : Ws h3 v ((rwK L q2 N).set (n + 1) (L.getD (q2 n) default)) := Ss.buf B3 rfl wriC_len (by omega)
    repeat' (first
      | refine St.h ?_
      | simp (disch := first | omega | (simp only [lnv]; omega)) only [wlk, ↓get_put', ↓reduceIte, seval, e0, e1, e2, e3, e8, e9, en, W4.ix]
      | (with_reducible (first | apply cd_split | apply gd_split)) <;> (intro hc; (try simp only [hcn] at hc); (try simp only [hc]); (try simp only [hcl] at hc); try omega))
    refine st_bufS (c := wriC) (x := L.getD (q2 (n + 1)) default) B3 T3 wriC_len (by omega) (by rw [List.length_set]; omega) (by rw [List.length_set]; omega) rfl fun h4 B4 T4 s5 => ?_
    rw [rwK_set] at B4
    repeat' (first
      | refine St.h ?_
      | simp (disch := first | omega | (simp only [lnv]; omega)) only [wlk, ↓get_put', ↓reduceIte, seval, e0, e1, e2, e3, e8, e9]
      | (with_reducible (first | apply cd_split | apply gd_split)) <;> (intro hc; (try simp only [hcn] at hc); (try simp only [hc]); (try simp only [hcl] at hc); try omega))
    refine lp_next hI2 n (by omega) ⟨n, swpK q2 (n + 1) n, rfl, by omega, by omega, by simp (disch := first | omega | (simp only [lnv]; omega)) only [wlk, ↓get_put', ↓reduceIte, seval, e0], by simp (disch := first | omega | (simp only [lnv]; omega)) only [wlk, ↓get_put', ↓reduceIte, seval, e1], by simp (disch := first | omega | (simp only [lnv]; omega)) only [wlk, ↓get_put', ↓reduceIte, seval, e2], by simp (disch := first | omega | (simp only [lnv]; omega)) only [wlk, ↓get_put', ↓reduceIte, seval, e3], by simp (disch := first | omega | (simp only [lnv]; omega)) only [wlk, ↓get_put', ↓reduceIte, seval, e8], by simp (disch := first | omega | (simp only [lnv]; omega)) only [wlk, ↓get_put', ↓reduceIte, seval, e9]; congr 1; omega, midK_swp hM (by omega) hj2 (ltK_kl hk), hper2.trans (swp_per (by omega) (by omega)), by rw [swp_1]; exact hqj, fun k k1 k2 k3 => ?_, ⟨B4, T4⟩, st3.trans (s4.trans s5)⟩
    by_cases e : k = n + 1
    · rw [e, swp_2]; exact hql2 n (by omega) (by omega) (by omega)
    · rw [swp_o k3 e]; exact hql2 k k1 k2 e
end
end Go.Proofs.Ythncpgkpkdolfaa
