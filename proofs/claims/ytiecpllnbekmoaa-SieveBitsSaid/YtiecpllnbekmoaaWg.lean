/-
  Structs in slices; a whole struct stored at once.
-/
import Derived.Test.YtiecpllnbekmoaaWe
set_option linter.all false
namespace Go.Ev
open Go

section
variable {h : H}
/-- all cells of a block at once -/
theorem ST.ownAll {P : Program} {N : Nx} {id : B} {xs vs : List V} {x : V} {size fin : Nat} (o : Own h id xs) (hc : cells x = vs) (hs : vs.length = size) (h1 : allOne vs = true) (hj : vs.length ≤ fin) (hfit : vs.length < 2 ^ 37)
    (k : ∀ h', Own h' id vs → Stay (fun i => i = id) h h' → N.go P (.tu []) h') : ST P size (.p id 0 0 fin) x h N := by
  obtain ⟨blk, a1, a2, a3, a4, a5, a6, a7⟩ := o
  obtain ⟨next, floor, heap⟩ := h
  obtain ⟨cur, min, sz, cs, bel, fr⟩ := blk
  simp only at a2 a3 a4 a7
  subst a2; subst a3; subst a4
  obtain ⟨tr, t1, t2, t3⟩ := setList_fine vs 0 cs (by omega)
  obtain ⟨hp, s1, s2, s3⟩ := setK_ok id (⟨0, 0, sz, tr, bel, 0⟩ : Blk) heap
  have e1 : B.geB floor id = true := by cases floor <;> first | rfl | (show Nat.ble _ _ = true; rw [Nat.ble_eq]; exact a5)
  have e2 : Nat.ble (Nat.add 0 vs.length) fin = true := by rw [Nat.ble_eq]; show 0 + vs.length ≤ fin; omega
  have e4 : frOk 0 0 = true := rfl
  have e5 : Nat.beq 0 0 = true := rfl
  have e6 : Nat.ble 0 0 = true := rfl
  have e7 : Nat.beq vs.length size = true := by rw [hs]; simp
  have a1' : heap.get id = some ⟨0, 0, sz, cs, bel, 0⟩ := a1
  refine hm_of (v := .tu []) (h' := ⟨next, floor, hp⟩) (fun q => ?_) (k _ ⟨_, s2, rfl, rfl, rfl, a5, a6, fun i z hz => by have := t2 i z hz; rwa [Nat.zero_add] at this⟩ ⟨rfl, Nat.le_refl _, fun i _ hi => s3 i hi⟩)
  show ifK (Nat.beq (cells x).length size) (fun _ => store ⟨next, floor, heap⟩ id 0 0 fin (cells x) fun h => q (.tu []) h) = _
  rw [hc, e7, ifK_true]
  simp only [store, hK_mk, a1', optK_some, blkK_mk, e5, e6, e1, e2, h1, e4, ifK_true]
  rw [t1, s1]
end
theorem ST.all {P : Program} {h : H} {N : Nx} {id : B} {xs vs : List V} {size fin : Nat} (o : Own h id xs) (hs : vs.length = size) (h1 : allOne vs = true) (hj : vs.length ≤ fin) (hfit : vs.length < 2 ^ 37)
    (k : ∀ h', Own h' id vs → Stay (fun i => i = id) h h' → N.go P (.tu []) h') : ST P size (.p id 0 0 fin) (.a vs) h N := ST.ownAll o rfl hs h1 hj hfit k
theorem Own.ra4 {h : H} {Q : V → H → Prop} {id : B} {a b c d : V} {us : List V} (o : Own h id [a, b, c, d]) : RA Q 4 (.p id 0 0 4) us h = Q (one (.a [a, b, c, d] :: us)) h := o.ra rfl (by omega) (by omega)
theorem re_fl (h : H) : B.val (reFloor h).floor ≤ B.val (reFloor h).next := by cases h; exact Nat.le_refl _
/-- a call in a region that draws -/
theorem CL.stayU {P : Program} {f : FuncId} {vs : List V} {h : H} {e : V} {m : Nat} {l : List CO} {t : F} {K : F → H → Prop} (a : FnOk P f vs (reFloor h) fun y h' => y = e ∧ Stay nowhere (reFloor h) h')
    (k : ∀ h', Stay nowhere h h' → DO P l (put m e t) h' K) : CL P f vs (reFloor h) (.u m l t h K) := ⟨_, a, fun v h' hq => by rw [hq.1, go_u]; exact k _ hq.2.unfloor⟩
/-- a new block in a region that draws -/
theorem AL.ownU {P : Program} {t : F} {h : H} {K : F → H → Prop} {l : List CO} {el m : Nat} {cs : List V} {mk : B → V} (hl : cs.length < 2 ^ 37) (hf : B.val h.floor ≤ B.val h.next)
    (k : ∀ h', Stay nowhere h h' → Own h' h.next cs → DO P l (put m (mk h.next) t) h' K) : AL P el cs mk (reFloor h) (.u m l t h K) := by
  have hn : (reFloor h).next = h.next := by cases h; rfl
  refine AL.own hl (re_fl _) fun h1' s1 n1 o1 => ?_
  rw [hn] at o1 ⊢
  rw [go_u]
  exact k _ s1.unfloor (o1.unfloor hf)
/-! ### Slices of structs -/
/-- a row of structs of n cells each -/
def Ss {α : Type} (n : Nat) (c : α → List V) (h : H) (v : V) (L : List α) : Prop :=
  (v = .l0 ∧ L = []) ∨ ∃ id g off fin cap, v = .l id g off L.length fin cap ∧ off + L.length * n ≤ fin ∧ B.val id < B.val h.next ∧ Row h id g off (L.flatMap c)
section
variable {α : Type} [Inhabited α] {n : Nat} {c : α → List V}
theorem fm_len (hc : ∀ e, (c e).length = n) : ∀ (L : List α), (L.flatMap c).length = L.length * n
  | [] => by simp
  | a :: L => by rw [List.flatMap_cons, List.length_append, hc, fm_len hc L, List.length_cons, Nat.add_mul]; omega
theorem fm_at (hc : ∀ e, (c e).length = n) : ∀ {L : List α} {i : Nat}, i < L.length → ((L.flatMap c).drop (i * n)).take n = c (L.getD i default)
  | [], i, h => by simp at h
  | a :: L, 0, h => by
    rw [List.flatMap_cons, Nat.zero_mul, List.drop_zero, List.take_append_of_le_length (by rw [hc]; exact Nat.le_refl _), List.take_of_length_le (by rw [hc]; exact Nat.le_refl _)]; rfl
  | a :: L, i + 1, h => by
    have e : (i + 1) * n = (c a).length + i * n := by rw [hc, Nat.add_mul]; omega
    rw [List.flatMap_cons, e, ← List.drop_drop, List.drop_left, fm_at hc (by simpa using h)]
    simp [List.getD]
theorem fm_get (hc : ∀ e, (c e).length = n) {L : List α} {i d : Nat} (hi : i < L.length) (hd : d < n) : (L.flatMap c)[i * n + d]? = some ((c (L.getD i default)).getD d .u) := by
  have e : (((L.flatMap c).drop (i * n)).take n)[d]? = (c (L.getD i default))[d]? := by rw [fm_at hc hi]
  rw [List.getElem?_take, if_pos hd, List.getElem?_drop] at e
  rw [e]
  have : d < (c (L.getD i default)).length := by rw [hc]; exact hd
  have e3 : ∀ (x : List V), d < x.length → x[d]? = some (x.getD d .u) := fun x hx => by simp [List.getD, hx]
  exact e3 _ this
theorem fm_take (hc : ∀ e, (c e).length = n) : ∀ (L : List α) (k : Nat), (L.take k).flatMap c = (L.flatMap c).take (k * n)
  | [], k => by simp
  | a :: L, 0 => by simp
  | a :: L, k + 1 => by
    have e : (k + 1) * n = (c a).length + k * n := by rw [hc, Nat.add_mul]; omega
    have e2 : ((c a) ++ L.flatMap c).take ((c a).length + k * n) = c a ++ (L.flatMap c).take (k * n) := by
      rw [List.take_append, Nat.add_sub_cancel_left, List.take_of_length_le (Nat.le_add_right _ _)]
    rw [List.take_succ_cons, List.flatMap_cons, List.flatMap_cons, fm_take hc L k, e, e2]
theorem fm_drop (hc : ∀ e, (c e).length = n) : ∀ (L : List α) (k : Nat), (L.drop k).flatMap c = (L.flatMap c).drop (k * n)
  | [], k => by simp
  | a :: L, 0 => by simp
  | a :: L, k + 1 => by
    rw [List.drop_succ_cons, List.flatMap_cons, fm_drop hc L k, show (k + 1) * n = (c a).length + k * n by rw [hc, Nat.add_mul]; omega, ← List.drop_drop, List.drop_left]
variable {P : Program} {h h' g' : H} {N : Nx} {v : V} {L : List α} {i d : Nat}
theorem Ss.ln (a : Ss n c h v L) : H1 P gLen v g' N = N.go P (.i .i64 (L.length : Int)) g' := by
  rcases a with ⟨rfl, rfl⟩ | ⟨id, g, off, fin, cap, rfl, _⟩
  · exact gLen_l0
  · exact gLen_l
theorem Ss.ix (a : Ss n c h v L) (hi : i < L.length) : IX P n v i g' N = N.go P (.p (lid v) (lg v) (loff v + i * n) (lfin v)) g' := by
  rcases a with ⟨rfl, rfl⟩ | ⟨id, g, off, fin, cap, rfl, _⟩
  · simp at hi
  · exact ix_l hi
theorem Ss.ld (a : Ss n c h v L) (hc : ∀ e, (c e).length = n) (hi : i < L.length) (hd : d < n) : L1 P (lid v) (lg v) (loff v + i * n + d) (lfin v) h N = N.go P ((c (L.getD i default)).getD d .u) h := by
  rcases a with ⟨rfl, rfl⟩ | ⟨id, g, off, fin, cap, rfl, hf, hl, r⟩
  · simp at hi
  · refine hv_of fun k => ?_
    have := r.2 (i * n + d) _ (fm_get hc hi hd)
    rw [← Nat.add_assoc] at this
    have h1 : (i + 1) * n ≤ L.length * n := Nat.mul_le_mul_right n hi
    rw [Nat.add_mul] at h1
    exact load1_cell this (by show off + i * n + d < fin; omega) k
theorem Ss.ldA (a : Ss n c h v L) (hc : ∀ e, (c e).length = n) (hn : 1 ≤ n) (hi : i < L.length) : LN P (lid v) (lg v) (loff v + i * n) (lfin v) n h N = N.go P (.a (c (L.getD i default))) h := by
  rcases a with ⟨rfl, rfl⟩ | ⟨id, g, off, fin, cap, rfl, hf, hl, r⟩
  · simp at hi
  · refine hv_of fun k => ?_
    have h1 : (i + 1) * n ≤ L.length * n := Nat.mul_le_mul_right n hi
    rw [Nat.add_mul] at h1
    have hlen := hc (L.getD i default)
    refine loadN_row (vs := c (L.getD i default)) ⟨fun _ => r.1 ?_, fun j y hy => ?_⟩ hlen (by intro e; rw [e] at hlen; simp at hlen; omega) (by show off + i * n + n ≤ fin; omega) fun vs => k (.a vs)
    · intro e
      have h2 := fm_len hc L
      rw [e] at h2
      have h3 : L.length * n = 0 := h2.symm
      omega
    · have hj : j < n := by rw [← hlen]; exact (List.getElem?_eq_some_iff.1 hy).1
      have e := fm_get hc hi hj
      rw [List.getD, hy] at e
      have := r.2 (i * n + j) _ e
      rw [← Nat.add_assoc] at this
      exact this
theorem Ss.grow (a : Ss n c h v L) (s : Stay nowhere h h') : Ss n c h' v L := by
  rcases a with ⟨rfl, rfl⟩ | ⟨id, g, off, fin, cap, rfl, hf, hl, r⟩
  · exact .inl ⟨rfl, rfl⟩
  · exact .inr ⟨id, g, off, fin, cap, rfl, hf, Nat.lt_of_lt_of_le hl s.next, r.grow s hl⟩
theorem Ss.stay {p : B → Prop} (a : Ss n c h v L) (s : Stay p h h') (hp : ∀ id, isOf v id → ¬ p id) : Ss n c h' v L := by
  rcases a with ⟨rfl, rfl⟩ | ⟨id, g, off, fin, cap, rfl, hf, hl, r⟩
  · exact .inl ⟨rfl, rfl⟩
  · exact .inr ⟨id, g, off, fin, cap, rfl, hf, Nat.lt_of_lt_of_le hl s.next, r.stay s hl (hp id ⟨_, _, _, _, _, rfl⟩)⟩
theorem Ss.nil : Ss n c h .l0 ([] : List α) := .inl ⟨rfl, rfl⟩
/-- of a literal -/
theorem Ss.lit {id : B} {xs : List V} {cap : Option Nat} {len fin : Nat} (o : Own h id xs) (e : xs = L.flatMap c) (hc : ∀ e, (c e).length = n) (hl : len = L.length) (hf : L.length * n ≤ fin) : Ss n c h (.l id 0 0 len fin cap) L := by
  subst hl; subst e
  have r := o.row
  obtain ⟨blk, h1, h2, h3, h4, h5, h6, h7⟩ := o
  exact .inr ⟨id, 0, 0, fin, cap, rfl, by omega, h6, r⟩
/-- of a row that grew -/
theorem Ss.buf {el : Nat} {xs : List V} (b : Buf h el n v xs) (e : xs = L.flatMap c) (hc : ∀ e, (c e).length = n) (hn : 1 ≤ n) : Ss n c h v L := by
  subst e
  rcases b with ⟨rfl, he⟩ | ⟨id, g, m, blk, rfl, h1, h2, h3, h4, h5, h6, h7, h8, h9, h10⟩
  · refine .inl ⟨rfl, ?_⟩
    cases L with
    | nil => rfl
    | cons a L =>
      have := fm_len hc (a :: L)
      rw [he] at this
      have h3 : (L.length + 1) * n = 0 := this.symm
      rw [Nat.add_mul] at h3; omega
  · have hm : m = L.length := by
      rw [fm_len hc] at h2
      exact (Nat.eq_of_mul_eq_mul_right (by omega) h2).symm
    subst hm
    refine .inr ⟨id, g, 0, (L.flatMap c).length, none, rfl, by rw [fm_len hc]; omega, h4, fun _ => ⟨blk, h5, h6.1⟩, fun i y hy => ?_⟩
    unfold Ev.cell cellB
    rw [h5]
    show (if blk.min ≤ g then blk.cells.getN (0 + i) else none) = _
    rw [if_pos h6.1, Nat.zero_add]
    exact h10 i y hy
/-- a slice whose end is where it should be -/
def SwN (n : Nat) (v : V) : Prop := v = .l0 ∨ ∃ id g off m fin cap, v = .l id g off m fin cap ∧ match cap with
  | some c => m ≤ c
  | none => fin = off + m * n
theorem row_hi {id : B} {g off k : Nat} (hc : ∀ e, (c e).length = n) (r : Row h id g off (L.flatMap c)) : Row h id g off ((L.take k).flatMap c) := by
  rw [fm_take hc]
  refine ⟨fun hne => r.1 fun e => hne (by rw [e]; simp), fun i y hy => r.2 i y ?_⟩
  rw [List.getElem?_take] at hy
  split at hy
  · exact hy
  · cases hy
theorem row_lo {id : B} {g off k : Nat} (hc : ∀ e, (c e).length = n) (r : Row h id g off (L.flatMap c)) : Row h id g (off + k * n) ((L.drop k).flatMap c) := by
  rw [fm_drop hc]
  refine ⟨fun hne => r.1 fun e => hne (by rw [e]; simp), fun i y hy => ?_⟩
  rw [List.getElem?_drop] at hy
  have := r.2 _ y hy
  rwa [← Nat.add_assoc] at this
theorem Ss.hi {kd : IntKind} {k : Nat} (a : Ss n c h v L) (hc : ∀ e, (c e).length = n) (w : SwN n v) (hk : k ≤ L.length) : ∃ u, Ss n c h u (L.take k) ∧ SwN n u ∧ ∀ (g : H) (N : Nx), H2 P (slHiV n) v (.i kd (k : Int)) g N = N.go P u g := by
  have e0 : Nat.ble 0 k = true := by rw [Nat.ble_eq]; omega
  have hkn : k * n ≤ L.length * n := Nat.mul_le_mul_right n hk
  have htk : (L.take k).length = k := by rw [List.length_take]; omega
  rcases a with ⟨rfl, rfl⟩ | ⟨id, g, off, fin, cap, rfl, h2, h3, r⟩
  · have : k = 0 := by simpa using hk
    subst this
    exact ⟨.l0, .inl ⟨rfl, by simp⟩, .inl rfl, fun g N => hv_of fun k => rfl⟩
  rcases w with e | ⟨id', g', off', n', fin', cap', e, hw⟩
  · cases e
  cases e
  cases cap with
  | none =>
    have hw : fin = off + L.length * n := hw
    refine ⟨.l id g off k (off + k * n) none, .inr ⟨id, g, off, off + k * n, none, by rw [htk], by rw [htk]; exact Nat.le_refl _, h3, row_hi hc r⟩, .inr ⟨_, _, _, _, _, _, rfl, rfl⟩, fun g0 N => hv_of fun q => ?_⟩
    have e1 : Nat.ble k L.length = true := by rw [Nat.ble_eq]; exact hk
    have e2 : Nat.beq fin (Nat.add off (Nat.mul L.length n)) = true := by rw [hw]; exact Nat.beq_refl _
    unfold slHiV
    simp only [vL_l, vI_i, natK_cast, e0, ifK_true]
    show sliceN n id g off L.length fin 0 k q = _
    unfold sliceN
    rw [e1, ifK_true, e2, ifK_true, fN_eq, fN_eq, fN_eq]
    show q (.l id g (off + 0 * n) (k - 0) (off + k * n) none) = _
    simp
  | some cc =>
    have hw : L.length ≤ cc := hw
    have e1 : Nat.ble k cc = true := by rw [Nat.ble_eq]; omega
    cases cc with
    | zero =>
      have hx : L.length = 0 := by omega
      have hk0 : k = 0 := by omega
      subst hk0
      refine ⟨.l id g off 0 fin (some 0), .inr ⟨id, g, off, fin, some 0, by simp, by simp; omega, h3, row_hi hc r⟩, .inr ⟨_, _, _, _, _, _, rfl, Nat.le_refl _⟩, fun g0 N => hv_of fun q => ?_⟩
      unfold slHiV
      simp only [vL_l, vI_i, natK_cast, e0, ifK_true]
      rfl
    | succ cc =>
      refine ⟨.l id g off k fin (some (cc + 1)), .inr ⟨id, g, off, fin, some (cc + 1), by rw [htk], by rw [htk]; omega, h3, row_hi hc r⟩, .inr ⟨_, _, _, _, _, _, rfl, by show k ≤ cc + 1; omega⟩, fun g0 N => hv_of fun q => ?_⟩
      unfold slHiV
      simp only [vL_l, vI_i, natK_cast, e0, ifK_true]
      show sliceC n id g off L.length fin (cc + 1) 0 k q = _
      rw [sliceC_mid (by omega) (by omega)]
      simp
theorem Ss.lo {kd : IntKind} {k : Nat} (a : Ss n c h v L) (hc : ∀ e, (c e).length = n) (w : SwN n v) (hk : k ≤ L.length) : ∃ u, Ss n c h u (L.drop k) ∧ SwN n u ∧ ∀ (g : H) (N : Nx), H2 P (slLoV n) v (.i kd (k : Int)) g N = N.go P u g := by
  have e0 : Nat.ble k L.length = true := by rw [Nat.ble_eq]; omega
  have hkn : k * n + (L.length - k) * n = L.length * n := by rw [← Nat.add_mul]; congr 1; omega
  have htk : (L.drop k).length = L.length - k := List.length_drop
  rcases a with ⟨rfl, rfl⟩ | ⟨id, g, off, fin, cap, rfl, h2, h3, r⟩
  · have : k = 0 := by simpa using hk
    subst this
    exact ⟨.l0, .inl ⟨rfl, by simp⟩, .inl rfl, fun g N => hv_of fun k => rfl⟩
  rcases w with e | ⟨id', g', off', n', fin', cap', e, hw⟩
  · cases e
  cases e
  cases cap with
  | none =>
    have hw : fin = off + L.length * n := hw
    refine ⟨.l id g (off + k * n) (L.length - k) (off + L.length * n) none, .inr ⟨id, g, off + k * n, off + L.length * n, none, by rw [htk], by rw [htk]; omega, h3, row_lo hc r⟩, .inr ⟨_, _, _, _, _, _, rfl, by show off + L.length * n = off + k * n + (L.length - k) * n; omega⟩, fun g0 N => hv_of fun q => ?_⟩
    have e1 : Nat.ble L.length L.length = true := by rw [Nat.ble_eq]; exact Nat.le_refl _
    have e2 : Nat.beq fin (Nat.add off (Nat.mul L.length n)) = true := by rw [hw]; exact Nat.beq_refl _
    unfold slLoV
    simp only [vL_l, vI_i, natK_cast, e0, ifK_true]
    show sliceN n id g off L.length fin k L.length q = _
    unfold sliceN
    rw [e1, ifK_true, e2, ifK_true, fN_eq, fN_eq, fN_eq]
    rfl
  | some cc =>
    have hw : L.length ≤ cc := hw
    have e1 : Nat.ble L.length cc = true := by rw [Nat.ble_eq]; omega
    by_cases hkc : k = cc
    · have hx : L.length = k := by omega
      refine ⟨.l id g off 0 fin (some 0), .inr ⟨id, g, off, fin, some 0, by rw [htk, hx]; simp, by rw [htk, hx]; simp; omega, h3, ?_⟩, .inr ⟨_, _, _, _, _, _, rfl, Nat.le_refl _⟩, fun g0 N => hv_of fun q => ?_⟩
      · rw [List.drop_eq_nil_of_le (by omega)]
        exact ⟨fun hne => absurd rfl hne, fun i v hv => by simp at hv⟩
      · unfold slLoV
        simp only [vL_l, vI_i, natK_cast, e0, ifK_true]
        show sliceC n id g off L.length fin cc k L.length q = _
        unfold sliceC
        have e2 : Nat.beq k cc = true := by rw [hkc]; exact Nat.beq_refl _
        rw [e1, ifK_true, e2]; rfl
    · refine ⟨.l id g (off + k * n) (L.length - k) fin (some (cc - k)), .inr ⟨id, g, off + k * n, fin, some (cc - k), by rw [htk], by rw [htk]; omega, h3, row_lo hc r⟩, .inr ⟨_, _, _, _, _, _, rfl, by show L.length - k ≤ cc - k; omega⟩, fun g0 N => hv_of fun q => ?_⟩
      unfold slLoV
      simp only [vL_l, vI_i, natK_cast, e0, ifK_true]
      show sliceC n id g off L.length fin cc k L.length q = _
      rw [sliceC_mid (by omega) (by omega)]
/-- the cells that are appended -/
theorem new_ss (a : Ss n c h v L) (hc : ∀ e, (c e).length = n) (hn : 1 ≤ n) (k : Nat → List V → Bool) : newCells n v h k = k L.length (L.flatMap c) := by
  rcases a with ⟨rfl, rfl⟩ | ⟨id, g, off, fin, cap, rfl, hf, hl, r⟩
  · rfl
  · have hlen := fm_len hc L
    cases hm : L.length with
    | zero =>
      have : L = [] := List.eq_nil_of_length_eq_zero hm
      subst this; rfl
    | succ m =>
      rw [hm] at hlen hf
      show loadN h id g off fin (Nat.mul (m + 1) n) (fun vs => k (m + 1) vs) = _
      have hne : L.flatMap c ≠ [] := by
        intro e; rw [e] at hlen
        have h3 : (m + 1) * n = 0 := hlen.symm
        rw [Nat.add_mul] at h3; omega
      rw [show Nat.mul (m + 1) n = (L.flatMap c).length by rw [hlen]; rfl, loadN_row r rfl hne (by rw [hlen]; omega)]
/-- append([]T{e}, l...) -/
theorem AP.lit {id : B} {cs : List V} {el : Nat} (o : Own h id cs) (hcs : cs.length = n) (hn : 1 ≤ n) (hc : ∀ e, (c e).length = n) (a : Ss n c h v L) (hf : B.val h.floor ≤ B.val h.next) (hb : (1 + L.length) * n ≤ 1048576)
    (k0 : L = [] → N.go P (.l id 0 0 1 n (some 1)) h)
    (k1 : ∀ v' h', L ≠ [] → Buf h' el n v' (cs ++ L.flatMap c) → Top h' v' → Stay nowhere h h' → (∀ i, isOf v' i → B.val h.next ≤ B.val i) → N.go P v' h') : AP P el n (.l id 0 0 1 n (some 1)) v h N := by
  have hlen := fm_len hc L
  cases hm : L.length with
  | zero =>
    have : L = [] := List.eq_nil_of_length_eq_zero hm
    subst this
    refine hm_of (v := .l id 0 0 1 n (some 1)) (h' := h) (fun k => ?_) (k0 rfl)
    rw [new_ss a hc hn]; rfl
  | succ m =>
    have hne : L ≠ [] := by intro e; rw [e] at hm; simp at hm
    have hb1 : 1 + L.length ≤ 1048576 := by
      have := Nat.mul_le_mul_left (1 + L.length) hn
      omega
    have hcn : (1 + L.length) * n = n + L.length * n := by rw [Nat.add_mul]; omega
    obtain ⟨h', a1, a2, a3, blk, b1, b2, b3, b4, b5, b6, b7⟩ := alloc_new el (cs ++ L.flatMap c) h (by rw [List.length_append]; omega)
    refine hm_of (v := .l h.next 0 0 (1 + L.length) ((1 + L.length) * n) none) (h' := h') (fun k => ?_) (k1 _ h' hne ?_ ?_ a2 ?_)
    · rw [new_ss a hc hn]
      show boolK (Nat.ble (Nat.add 1 L.length) 1) (fun _ => appIn id 0 0 1 n 1 n L.length (L.flatMap c) h k) (fun _ => appOut el id 0 0 1 n n L.length (L.flatMap c) h k) = _
      have e1 : Nat.ble (Nat.add 1 L.length) 1 = false := by
        cases hx : Nat.ble (Nat.add 1 L.length) 1 with
        | false => rfl
        | true => have := Nat.le_of_ble_eq_true hx; have h2 : 1 + L.length ≤ 1 := this; omega
      rw [e1]
      show appOut el id 0 0 1 n n L.length (L.flatMap c) h k = _
      unfold appOut
      have e2 : Nat.ble (Nat.add 1 L.length) 1048576 = true := by rw [Nat.ble_eq]; exact hb1
      rw [e2, ifK_true, show Nat.mul 1 n = cs.length by rw [hcs]; show 1 * n = n; omega, loadN_row o.row rfl (by intro e; rw [e] at hcs; simp at hcs; omega) (by omega), app_eq, a1, fN_eq, fN_eq]
      rfl
    · refine .inr ⟨h.next, 0, 1 + L.length, blk, by rw [List.length_append, hlen, hcs, ← hcn], by omega, by rw [List.length_append, hlen, hcs, ← hcn], by rw [a2.floor]; exact hf, by omega, b1, ⟨by omega, by omega⟩, b4, b5, b6, b7⟩
    · intro id' g off m' fin cap e
      cases e
      exact ⟨blk, b1, b3⟩
    · rintro i ⟨g, off, m', fin, cap, e⟩
      cases e; exact Nat.le_refl _
end
end Go.Ev
