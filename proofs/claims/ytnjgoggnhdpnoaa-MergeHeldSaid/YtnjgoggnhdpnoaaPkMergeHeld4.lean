/- Texts of ours, without what this claim does not use: Wg EntM HpM MgM MgS JrMg JrEnt Base NEnt1 NEntR NHp1 NMg2 NMg3 MgJ Wy NMgA NMgB NMgC Knravelinlaw11 NMgP JrMg2 MgH. No condition. -/
import Derived.Test.YtnjgoggnhdpnoaaPkMergeHeld3
import Derived.Test.YtnjgoggnhdpnoaaProg
import Derived.KernelRfl
import Derived.Test.YtnjgoggnhdpnoaaRows
set_option linter.all false
namespace Go.Ev
open Go
section
variable {h : H}
/-- all cells of a block at once -/
theorem ST.ownAll {P : Program} {N : Nx} {id : B} {xs vs : List V} {x : V} {size fin : Nat} (o : Own h id xs) (hc : cells x = vs) (hs : vs.length = size) (h1 : allOne vs = true) (hj : vs.length ≤ fin) (hfit : vs.length < 2 ^ 37)
    (k : ∀ h', Own h' id vs → Stay (fun i => i = id) h h' → N.go P (.tu []) h') : ST P size (.p id 0 0 fin) x h N := by
  obtain ⟨blk, a1, a2, a3, a4, a5, a6, a7⟩ := o
  obtain ⟨next, floor, heap⟩ := h
  obtain ⟨cur, min, sz, cs, bel, fr⟩ := blk
  simp only at a2 a3 a4 a7
  subst a2; subst a3; subst a4
  obtain ⟨tr, t1, t2, t3⟩ := setList_fine vs 0 cs (by omega)
  obtain ⟨hp, s1, s2, s3⟩ := setK_ok id (⟨0, 0, sz, tr, bel, 0⟩ : Blk) heap
  have e1 : B.geB floor id = true := by cases floor <;> first | rfl | (show Nat.ble _ _ = true; rw [Nat.ble_eq]; exact a5)
  have e2 : Nat.ble (Nat.add 0 vs.length) fin = true := by rw [Nat.ble_eq]; show 0 + vs.length ≤ fin; omega
  have e4 : frOk 0 0 = true := rfl
  have e5 : Nat.beq 0 0 = true := rfl
  have e6 : Nat.ble 0 0 = true := rfl
  have e7 : Nat.beq vs.length size = true := by rw [hs]; simp
  have a1' : heap.get id = some ⟨0, 0, sz, cs, bel, 0⟩ := a1
  refine hm_of (v := .tu []) (h' := ⟨next, floor, hp⟩) (fun q => ?_) (k _ ⟨_, s2, rfl, rfl, rfl, a5, a6, fun i z hz => by have := t2 i z hz; rwa [Nat.zero_add] at this⟩ ⟨rfl, Nat.le_refl _, fun i _ hi => s3 i hi⟩)
  show ifK (Nat.beq (cells x).length size) (fun _ => store ⟨next, floor, heap⟩ id 0 0 fin (cells x) fun h => q (.tu []) h) = _
  rw [hc, e7, ifK_true]
  simp only [store, hK_mk, a1', optK_some, blkK_mk, e5, e6, e1, e2, h1, e4, ifK_true]
  rw [t1, s1]
end
theorem ST.all {P : Program} {h : H} {N : Nx} {id : B} {xs vs : List V} {size fin : Nat} (o : Own h id xs) (hs : vs.length = size) (h1 : allOne vs = true) (hj : vs.length ≤ fin) (hfit : vs.length < 2 ^ 37)
    (k : ∀ h', Own h' id vs → Stay (fun i => i = id) h h' → N.go P (.tu []) h') : ST P size (.p id 0 0 fin) (.a vs) h N := ST.ownAll o rfl hs h1 hj hfit k
/-- a row of structs of n cells each -/
def Ss {α : Type} (n : Nat) (c : α → List V) (h : H) (v : V) (L : List α) : Prop :=
  (v = .l0 ∧ L = []) ∨ ∃ id g off fin cap, v = .l id g off L.length fin cap ∧ off + L.length * n ≤ fin ∧ B.val id < B.val h.next ∧ Row h id g off (L.flatMap c)
section
variable {α : Type} [Inhabited α] {n : Nat} {c : α → List V}
theorem fm_len (hc : ∀ e, (c e).length = n) : ∀ (L : List α), (L.flatMap c).length = L.length * n
  | [] => by simp
  | a :: L => by rw [List.flatMap_cons, List.length_append, hc, fm_len hc L, List.length_cons, Nat.add_mul]; omega
theorem fm_at (hc : ∀ e, (c e).length = n) : ∀ {L : List α} {i : Nat}, i < L.length → ((L.flatMap c).drop (i * n)).take n = c (L.getD i default)
  | [], i, h => by simp at h
  | a :: L, 0, h => by
    rw [List.flatMap_cons, Nat.zero_mul, List.drop_zero, List.take_append_of_le_length (by rw [hc]; exact Nat.le_refl _), List.take_of_length_le (by rw [hc]; exact Nat.le_refl _)]; rfl
  | a :: L, i + 1, h => by
    have e : (i + 1) * n = (c a).length + i * n := by rw [hc, Nat.add_mul]; omega
    rw [List.flatMap_cons, e, ← List.drop_drop, List.drop_left, fm_at hc (by simpa using h)]
    simp [List.getD]
theorem fm_get (hc : ∀ e, (c e).length = n) {L : List α} {i d : Nat} (hi : i < L.length) (hd : d < n) : (L.flatMap c)[i * n + d]? = some ((c (L.getD i default)).getD d .u) := by
  have e : (((L.flatMap c).drop (i * n)).take n)[d]? = (c (L.getD i default))[d]? := by rw [fm_at hc hi]
  rw [List.getElem?_take, if_pos hd, List.getElem?_drop] at e
  rw [e]
  have : d < (c (L.getD i default)).length := by rw [hc]; exact hd
  have e3 : ∀ (x : List V), d < x.length → x[d]? = some (x.getD d .u) := fun x hx => by simp [List.getD, hx]
  exact e3 _ this
theorem fm_take (hc : ∀ e, (c e).length = n) : ∀ (L : List α) (k : Nat), (L.take k).flatMap c = (L.flatMap c).take (k * n)
  | [], k => by simp
  | a :: L, 0 => by simp
  | a :: L, k + 1 => by
    have e : (k + 1) * n = (c a).length + k * n := by rw [hc, Nat.add_mul]; omega
    have e2 : ((c a) ++ L.flatMap c).take ((c a).length + k * n) = c a ++ (L.flatMap c).take (k * n) := by
      rw [List.take_append, Nat.add_sub_cancel_left, List.take_of_length_le (Nat.le_add_right _ _)]
    rw [List.take_succ_cons, List.flatMap_cons, List.flatMap_cons, fm_take hc L k, e, e2]
theorem fm_drop (hc : ∀ e, (c e).length = n) : ∀ (L : List α) (k : Nat), (L.drop k).flatMap c = (L.flatMap c).drop (k * n)
  | [], k => by simp
  | a :: L, 0 => by simp
  | a :: L, k + 1 => by
    rw [List.drop_succ_cons, List.flatMap_cons, fm_drop hc L k, show (k + 1) * n = (c a).length + k * n by rw [hc, Nat.add_mul]; omega, ← List.drop_drop, List.drop_left]
variable {P : Program} {h h' g' : H} {N : Nx} {v : V} {L : List α} {i d : Nat}
theorem Ss.ln (a : Ss n c h v L) : H1 P gLen v g' N = N.go P (.i .i64 (L.length : Int)) g' := by
  rcases a with ⟨rfl, rfl⟩ | ⟨id, g, off, fin, cap, rfl, _⟩
  · exact gLen_l0
  · exact gLen_l
theorem Ss.ix (a : Ss n c h v L) (hi : i < L.length) : IX P n v i g' N = N.go P (.p (lid v) (lg v) (loff v + i * n) (lfin v)) g' := by
  rcases a with ⟨rfl, rfl⟩ | ⟨id, g, off, fin, cap, rfl, _⟩
  · simp at hi
  · exact ix_l hi
theorem Ss.ld (a : Ss n c h v L) (hc : ∀ e, (c e).length = n) (hi : i < L.length) (hd : d < n) : L1 P (lid v) (lg v) (loff v + i * n + d) (lfin v) h N = N.go P ((c (L.getD i default)).getD d .u) h := by
  rcases a with ⟨rfl, rfl⟩ | ⟨id, g, off, fin, cap, rfl, hf, hl, r⟩
  · simp at hi
  · refine hv_of fun k => ?_
    have := r.2 (i * n + d) _ (fm_get hc hi hd)
    rw [← Nat.add_assoc] at this
    have h1 : (i + 1) * n ≤ L.length * n := Nat.mul_le_mul_right n hi
    rw [Nat.add_mul] at h1
    exact load1_cell this (by show off + i * n + d < fin; omega) k
theorem Ss.ldA (a : Ss n c h v L) (hc : ∀ e, (c e).length = n) (hn : 1 ≤ n) (hi : i < L.length) : LN P (lid v) (lg v) (loff v + i * n) (lfin v) n h N = N.go P (.a (c (L.getD i default))) h := by
  rcases a with ⟨rfl, rfl⟩ | ⟨id, g, off, fin, cap, rfl, hf, hl, r⟩
  · simp at hi
  · refine hv_of fun k => ?_
    have h1 : (i + 1) * n ≤ L.length * n := Nat.mul_le_mul_right n hi
    rw [Nat.add_mul] at h1
    have hlen := hc (L.getD i default)
    refine loadN_row (vs := c (L.getD i default)) ⟨fun _ => r.1 ?_, fun j y hy => ?_⟩ hlen (by intro e; rw [e] at hlen; simp at hlen; omega) (by show off + i * n + n ≤ fin; omega) fun vs => k (.a vs)
    · intro e
      have h2 := fm_len hc L
      rw [e] at h2
      have h3 : L.length * n = 0 := h2.symm
      omega
    · have hj : j < n := by rw [← hlen]; exact (List.getElem?_eq_some_iff.1 hy).1
      have e := fm_get hc hi hj
      rw [List.getD, hy] at e
      have := r.2 (i * n + j) _ e
      rw [← Nat.add_assoc] at this
      exact this
theorem Ss.grow (a : Ss n c h v L) (s : Stay nowhere h h') : Ss n c h' v L := by
  rcases a with ⟨rfl, rfl⟩ | ⟨id, g, off, fin, cap, rfl, hf, hl, r⟩
  · exact .inl ⟨rfl, rfl⟩
  · exact .inr ⟨id, g, off, fin, cap, rfl, hf, Nat.lt_of_lt_of_le hl s.next, r.grow s hl⟩
theorem Ss.stay {p : B → Prop} (a : Ss n c h v L) (s : Stay p h h') (hp : ∀ id, isOf v id → ¬ p id) : Ss n c h' v L := by
  rcases a with ⟨rfl, rfl⟩ | ⟨id, g, off, fin, cap, rfl, hf, hl, r⟩
  · exact .inl ⟨rfl, rfl⟩
  · exact .inr ⟨id, g, off, fin, cap, rfl, hf, Nat.lt_of_lt_of_le hl s.next, r.stay s hl (hp id ⟨_, _, _, _, _, rfl⟩)⟩
theorem Ss.nil : Ss n c h .l0 ([] : List α) := .inl ⟨rfl, rfl⟩
/-- of a literal -/
theorem Ss.lit {id : B} {xs : List V} {cap : Option Nat} {len fin : Nat} (o : Own h id xs) (e : xs = L.flatMap c) (hc : ∀ e, (c e).length = n) (hl : len = L.length) (hf : L.length * n ≤ fin) : Ss n c h (.l id 0 0 len fin cap) L := by
  subst hl; subst e
  have r := o.row
  obtain ⟨blk, h1, h2, h3, h4, h5, h6, h7⟩ := o
  exact .inr ⟨id, 0, 0, fin, cap, rfl, by omega, h6, r⟩
/-- of a row that grew -/
theorem Ss.buf {el : Nat} {xs : List V} (b : Buf h el n v xs) (e : xs = L.flatMap c) (hc : ∀ e, (c e).length = n) (hn : 1 ≤ n) : Ss n c h v L := by
  subst e
  rcases b with ⟨rfl, he⟩ | ⟨id, g, m, blk, rfl, h1, h2, h3, h4, h5, h6, h7, h8, h9, h10⟩
  · refine .inl ⟨rfl, ?_⟩
    cases L with
    | nil => rfl
    | cons a L =>
      have := fm_len hc (a :: L)
      rw [he] at this
      have h3 : (L.length + 1) * n = 0 := this.symm
      rw [Nat.add_mul] at h3; omega
  · have hm : m = L.length := by
      rw [fm_len hc] at h2
      exact (Nat.eq_of_mul_eq_mul_right (by omega) h2).symm
    subst hm
    refine .inr ⟨id, g, 0, (L.flatMap c).length, none, rfl, by rw [fm_len hc]; omega, h4, fun _ => ⟨blk, h5, h6.1⟩, fun i y hy => ?_⟩
    unfold Ev.cell cellB
    rw [h5]
    show (if blk.min ≤ g then blk.cells.getN (0 + i) else none) = _
    rw [if_pos h6.1, Nat.zero_add]
    exact h10 i y hy
/-- a slice whose end is where it should be -/
def SwN (n : Nat) (v : V) : Prop := v = .l0 ∨ ∃ id g off m fin cap, v = .l id g off m fin cap ∧ match cap with
  | some c => m ≤ c ∧ (18446744073709551616 ≤ c → m = 0)
  | none => fin = off + m * n
theorem swn_capS {n off k L : Nat} : match capS k L with
  | some c => k ≤ c ∧ (18446744073709551616 ≤ c → k = 0)
  | none => off + k * n = off + k * n := by
  cases k with
  | zero => (cases L with | zero => exact rfl | succ L => exact ⟨Nat.zero_le _, fun _ => rfl⟩)
  | succ k => exact rfl
theorem row_hi {id : B} {g off k : Nat} (hc : ∀ e, (c e).length = n) (r : Row h id g off (L.flatMap c)) : Row h id g off ((L.take k).flatMap c) := by
  rw [fm_take hc]
  refine ⟨fun hne => r.1 fun e => hne (by rw [e]; simp), fun i y hy => r.2 i y ?_⟩
  rw [List.getElem?_take] at hy
  split at hy
  · exact hy
  · cases hy
theorem row_lo {id : B} {g off k : Nat} (hc : ∀ e, (c e).length = n) (r : Row h id g off (L.flatMap c)) : Row h id g (off + k * n) ((L.drop k).flatMap c) := by
  rw [fm_drop hc]
  refine ⟨fun hne => r.1 fun e => hne (by rw [e]; simp), fun i y hy => ?_⟩
  rw [List.getElem?_drop] at hy
  have := r.2 _ y hy
  rwa [← Nat.add_assoc] at this
theorem Ss.hi {kd : IntKind} {k : Nat} (a : Ss n c h v L) (hc : ∀ e, (c e).length = n) (w : SwN n v) (hk : k ≤ L.length) : ∃ u, Ss n c h u (L.take k) ∧ SwN n u ∧ ∀ (g : H) (N : Nx), H2 P (slHiV n) v (.i kd (k : Int)) g N = N.go P u g := by
  have e0 : Nat.ble 0 k = true := by rw [Nat.ble_eq]; omega
  have hkn : k * n ≤ L.length * n := Nat.mul_le_mul_right n hk
  have htk : (L.take k).length = k := by rw [List.length_take]; omega
  rcases a with ⟨rfl, rfl⟩ | ⟨id, g, off, fin, cap, rfl, h2, h3, r⟩
  · have : k = 0 := by simpa using hk
    subst this
    exact ⟨.l0, .inl ⟨rfl, by simp⟩, .inl rfl, fun g N => hv_of fun k => rfl⟩
  rcases w with e | ⟨id', g', off', n', fin', cap', e, hw⟩
  · cases e
  cases e
  cases cap with
  | none =>
    have hw : fin = off + L.length * n := hw
    refine ⟨.l id g off k (off + k * n) (capS k L.length), .inr ⟨id, g, off, off + k * n, capS k L.length, by rw [htk], by rw [htk]; exact Nat.le_refl _, h3, row_hi hc r⟩, .inr ⟨_, _, _, _, _, _, rfl, swn_capS⟩, fun g0 N => hv_of fun q => ?_⟩
    have e1 : Nat.ble k L.length = true := by rw [Nat.ble_eq]; exact hk
    have e2 : Nat.beq fin (Nat.add off (Nat.mul L.length n)) = true := by rw [hw]; exact Nat.beq_refl _
    unfold slHiV
    simp only [vL_l, vI_i, natK_cast, e0, ifK_true]
    show sliceN n id g off L.length fin 0 k q = _
    unfold sliceN
    rw [e1, ifK_true, e2, ifK_true, fN_eq, fN_eq, fN_eq]
    show q (.l id g (off + 0 * n) (k - 0) (off + k * n) (capS k L.length)) = _
    simp
  | some cc =>
    have hw2 : 18446744073709551616 ≤ cc → L.length = 0 := hw.2
    have hw : L.length ≤ cc := hw.1
    have e1 : Nat.ble k cc = true := by rw [Nat.ble_eq]; omega
    cases hfc : flagB cc with
    | true =>
      have hcc := flagB_t hfc
      have hx := hw2 hcc
      have hk0 : k = 0 := by omega
      subst hk0
      refine ⟨.l id g off 0 off (some cc), .inr ⟨id, g, off, off, some cc, by simp, by simp, h3, row_hi hc r⟩, .inr ⟨_, _, _, _, _, _, rfl, Nat.zero_le _, fun _ => rfl⟩, fun g0 N => hv_of fun q => ?_⟩
      unfold slHiV
      simp only [vL_l, vI_i, natK_cast, e0, ifK_true]
      show boolK (flagB cc) (fun _ => ifK (Nat.beq 0 0) fun _ => q (.l id g off 0 off (some cc))) _ = _
      rw [hfc]; rfl
    | false =>
    have hcM := flagB_f hfc
    cases cc with
    | zero =>
      have hx : L.length = 0 := by omega
      have hk0 : k = 0 := by omega
      subst hk0
      refine ⟨.l id g off 0 fin (some 0), .inr ⟨id, g, off, fin, some 0, by simp, by simp; omega, h3, row_hi hc r⟩, .inr ⟨_, _, _, _, _, _, rfl, Nat.le_refl _, fun _ => rfl⟩, fun g0 N => hv_of fun q => ?_⟩
      unfold slHiV
      simp only [vL_l, vI_i, natK_cast, e0, ifK_true]
      rfl
    | succ cc =>
      refine ⟨.l id g off k fin (some (cc + 1)), .inr ⟨id, g, off, fin, some (cc + 1), by rw [htk], by rw [htk]; omega, h3, row_hi hc r⟩, .inr ⟨_, _, _, _, _, _, rfl, by show k ≤ cc + 1; omega, fun h => absurd hcM (Nat.not_lt.2 h)⟩, fun g0 N => hv_of fun q => ?_⟩
      unfold slHiV
      simp only [vL_l, vI_i, natK_cast, e0, ifK_true]
      show boolK (flagB (cc + 1)) _ (fun _ => sliceC n id g off L.length fin (cc + 1) 0 k fun v => q v) = _
      rw [hfc, boolK_false, sliceC_mid hcM (by omega) (by omega)]
      simp
theorem Ss.mid {kd kd' : IntKind} {j k : Nat} (a : Ss n c h v L) (hc : ∀ e, (c e).length = n) (w : SwN n v) (hj : j ≤ k) (hk : k ≤ L.length) : ∃ u, Ss n c h u ((L.take k).drop j) ∧ SwN n u ∧ ∀ (g : H) (N : Nx), H3 P (slBoV n) v (.i kd (j : Int)) (.i kd' (k : Int)) g N = N.go P u g := by
  have e0 : Nat.ble j k = true := by rw [Nat.ble_eq]; omega
  have hkn : k * n ≤ L.length * n := Nat.mul_le_mul_right n hk
  have hjn : j * n + (k - j) * n = k * n := by rw [← Nat.add_mul]; congr 1; omega
  have htk : ((L.take k).drop j).length = k - j := by rw [List.length_drop, List.length_take]; omega
  rcases a with ⟨rfl, rfl⟩ | ⟨id, g, off, fin, cap, rfl, h2, h3, r⟩
  · obtain rfl : k = 0 := by simpa using hk
    obtain rfl : j = 0 := by omega
    exact ⟨.l0, .inl ⟨rfl, by simp⟩, .inl rfl, fun g N => hv_of fun k => rfl⟩
  rcases w with e | ⟨id', g', off', n', fin', cap', e, hw⟩
  · cases e
  cases e
  have hr := row_lo hc (row_hi (k := k) hc r) (k := j)
  cases cap with
  | none =>
    have hw : fin = off + L.length * n := hw
    refine ⟨.l id g (off + j * n) (k - j) (off + k * n) (capS k L.length), .inr ⟨id, g, off + j * n, off + k * n, capS k L.length, by rw [htk], by rw [htk]; omega, h3, hr⟩, .inr ⟨_, _, _, _, _, _, rfl, ?_⟩, fun g0 N => hv_of fun q => ?_⟩
    · cases hk0 : k with
      | zero => (cases L.length with | zero => (show _ = _; rw [hk0] at hjn; omega) | succ l => exact ⟨by omega, fun _ => by omega⟩)
      | succ m => (show _ = _; rw [← hk0]; omega)
    have e1 : Nat.ble k L.length = true := by rw [Nat.ble_eq]; exact hk
    have e2 : Nat.beq fin (Nat.add off (Nat.mul L.length n)) = true := by rw [hw]; exact Nat.beq_refl _
    unfold slBoV
    simp only [vL_l, vI_i, natK_cast, e0, ifK_true]
    show sliceN n id g off L.length fin j k q = _
    unfold sliceN
    rw [e1, ifK_true, e2, ifK_true, fN_eq, fN_eq, fN_eq]
    rfl
  | some cc =>
    have hw2 : 18446744073709551616 ≤ cc → L.length = 0 := hw.2
    have hw : L.length ≤ cc := hw.1
    cases hfc : flagB cc with
    | true =>
      have hcc := flagB_t hfc
      have hx := hw2 hcc
      obtain rfl : k = 0 := by omega
      obtain rfl : j = 0 := by omega
      refine ⟨.l id g off 0 off (some cc), .inr ⟨id, g, off, off, some cc, by simp, by simp, h3, ?_⟩, .inr ⟨_, _, _, _, _, _, rfl, Nat.zero_le _, fun _ => rfl⟩, fun g0 N => hv_of fun q => ?_⟩
      · simpa using hr
      unfold slBoV
      simp only [vL_l, vI_i, natK_cast, e0, ifK_true]
      show boolK (flagB cc) (fun _ => ifK (Nat.beq 0 0) fun _ => q (.l id g off 0 off (some cc))) _ = _
      rw [hfc]; rfl
    | false =>
    have hcM := flagB_f hfc
    by_cases hjc : j = cc
    · have hx : k = j := by omega
      refine ⟨.l id g off 0 fin (some 0), .inr ⟨id, g, off, fin, some 0, by rw [htk, hx]; simp, by rw [htk, hx]; simp; omega, h3, ?_⟩, .inr ⟨_, _, _, _, _, _, rfl, Nat.le_refl _, fun _ => rfl⟩, fun g0 N => hv_of fun q => ?_⟩
      · rw [List.drop_eq_nil_of_le (by rw [List.length_take]; omega)]
        exact ⟨fun hne => absurd rfl hne, fun i v hv => by simp at hv⟩
      · unfold slBoV
        simp only [vL_l, vI_i, natK_cast, e0, ifK_true]
        show boolK (flagB cc) _ (fun _ => sliceC n id g off L.length fin cc j k fun v => q v) = _
        rw [hfc, boolK_false]
        have eM : Nat.ble (Nat.succ cc) 18446744073709551616 = true := by rw [Nat.ble_eq]; exact hcM
        have e1 : Nat.ble k cc = true := by rw [Nat.ble_eq]; omega
        unfold sliceC
        rw [eM, ifK_true]
        have e2 : Nat.beq j cc = true := by rw [hjc]; exact Nat.beq_refl _
        rw [e1, ifK_true, e2]; rfl
    · refine ⟨.l id g (off + j * n) (k - j) fin (some (cc - j)), .inr ⟨id, g, off + j * n, fin, some (cc - j), by rw [htk], by rw [htk]; omega, h3, hr⟩, .inr ⟨_, _, _, _, _, _, rfl, by show k - j ≤ cc - j; omega, fun h => absurd hcM (by omega)⟩, fun g0 N => hv_of fun q => ?_⟩
      unfold slBoV
      simp only [vL_l, vI_i, natK_cast, e0, ifK_true]
      show boolK (flagB cc) _ (fun _ => sliceC n id g off L.length fin cc j k fun v => q v) = _
      rw [hfc, boolK_false, sliceC_mid hcM (by omega) (by omega)]
theorem Ss.lo {kd : IntKind} {k : Nat} (a : Ss n c h v L) (hc : ∀ e, (c e).length = n) (w : SwN n v) (hk : k ≤ L.length) : ∃ u, Ss n c h u (L.drop k) ∧ SwN n u ∧ ∀ (g : H) (N : Nx), H2 P (slLoV n) v (.i kd (k : Int)) g N = N.go P u g := by
  have e0 : Nat.ble k L.length = true := by rw [Nat.ble_eq]; omega
  have hkn : k * n + (L.length - k) * n = L.length * n := by rw [← Nat.add_mul]; congr 1; omega
  have htk : (L.drop k).length = L.length - k := List.length_drop
  rcases a with ⟨rfl, rfl⟩ | ⟨id, g, off, fin, cap, rfl, h2, h3, r⟩
  · have : k = 0 := by simpa using hk
    subst this
    exact ⟨.l0, .inl ⟨rfl, by simp⟩, .inl rfl, fun g N => hv_of fun k => rfl⟩
  rcases w with e | ⟨id', g', off', n', fin', cap', e, hw⟩
  · cases e
  cases e
  cases cap with
  | none =>
    have hw : fin = off + L.length * n := hw
    refine ⟨.l id g (off + k * n) (L.length - k) (off + L.length * n) none, .inr ⟨id, g, off + k * n, off + L.length * n, none, by rw [htk], by rw [htk]; omega, h3, row_lo hc r⟩, .inr ⟨_, _, _, _, _, _, rfl, by show off + L.length * n = off + k * n + (L.length - k) * n; omega⟩, fun g0 N => hv_of fun q => ?_⟩
    have e1 : Nat.ble L.length L.length = true := by rw [Nat.ble_eq]; exact Nat.le_refl _
    have e2 : Nat.beq fin (Nat.add off (Nat.mul L.length n)) = true := by rw [hw]; exact Nat.beq_refl _
    unfold slLoV
    simp only [vL_l, vI_i, natK_cast, e0, ifK_true]
    show sliceN n id g off L.length fin k L.length q = _
    unfold sliceN
    rw [e1, ifK_true, e2, ifK_true, fN_eq, fN_eq, fN_eq, capS_self]
    rfl
  | some cc =>
    have hw2 : 18446744073709551616 ≤ cc → L.length = 0 := hw.2
    have hw : L.length ≤ cc := hw.1
    have e1 : Nat.ble L.length cc = true := by rw [Nat.ble_eq]; omega
    cases hfc : flagB cc with
    | true =>
      have hcc := flagB_t hfc
      have hx := hw2 hcc
      have hk0 : k = 0 := by omega
      subst hk0
      refine ⟨.l id g off 0 off (some cc), .inr ⟨id, g, off, off, some cc, by rw [htk, hx], by rw [htk, hx]; simp, h3, ?_⟩, .inr ⟨_, _, _, _, _, _, rfl, Nat.zero_le _, fun _ => rfl⟩, fun g0 N => hv_of fun q => ?_⟩
      · rw [List.drop_eq_nil_of_le (by omega)]
        exact ⟨fun hne => absurd rfl hne, fun i v hv => by simp at hv⟩
      · unfold slLoV
        simp only [vL_l, vI_i, natK_cast, e0, ifK_true]
        show boolK (flagB cc) (fun _ => ifK (Nat.beq L.length 0) fun _ => q (.l id g off 0 off (some cc))) _ = _
        rw [hfc, hx]; rfl
    | false =>
    have hcM := flagB_f hfc
    have eM : Nat.ble (Nat.succ cc) 18446744073709551616 = true := by rw [Nat.ble_eq]; exact hcM
    by_cases hkc : k = cc
    · have hx : L.length = k := by omega
      refine ⟨.l id g off 0 fin (some 0), .inr ⟨id, g, off, fin, some 0, by rw [htk, hx]; simp, by rw [htk, hx]; simp; omega, h3, ?_⟩, .inr ⟨_, _, _, _, _, _, rfl, Nat.le_refl _, fun _ => rfl⟩, fun g0 N => hv_of fun q => ?_⟩
      · rw [List.drop_eq_nil_of_le (by omega)]
        exact ⟨fun hne => absurd rfl hne, fun i v hv => by simp at hv⟩
      · unfold slLoV
        simp only [vL_l, vI_i, natK_cast, e0, ifK_true]
        show boolK (flagB cc) _ (fun _ => sliceC n id g off L.length fin cc k L.length fun v => q v) = _
        rw [hfc, boolK_false]
        unfold sliceC
        rw [eM, ifK_true]
        have e2 : Nat.beq k cc = true := by rw [hkc]; exact Nat.beq_refl _
        rw [e1, ifK_true, e2]; rfl
    · refine ⟨.l id g (off + k * n) (L.length - k) fin (some (cc - k)), .inr ⟨id, g, off + k * n, fin, some (cc - k), by rw [htk], by rw [htk]; omega, h3, row_lo hc r⟩, .inr ⟨_, _, _, _, _, _, rfl, by show L.length - k ≤ cc - k; omega, fun h => absurd hcM (by omega)⟩, fun g0 N => hv_of fun q => ?_⟩
      unfold slLoV
      simp only [vL_l, vI_i, natK_cast, e0, ifK_true]
      show boolK (flagB cc) _ (fun _ => sliceC n id g off L.length fin cc k L.length fun v => q v) = _
      rw [hfc, boolK_false, sliceC_mid hcM (by omega) (by omega)]
/-- the cells that are appended -/
theorem new_ss (a : Ss n c h v L) (hc : ∀ e, (c e).length = n) (hn : 1 ≤ n) (k : Nat → List V → Bool) : newCells n v h k = k L.length (L.flatMap c) := by
  rcases a with ⟨rfl, rfl⟩ | ⟨id, g, off, fin, cap, rfl, hf, hl, r⟩
  · rfl
  · have hlen := fm_len hc L
    cases hm : L.length with
    | zero =>
      have : L = [] := List.eq_nil_of_length_eq_zero hm
      subst this; rfl
    | succ m =>
      rw [hm] at hlen hf
      show loadN h id g off fin (Nat.mul (m + 1) n) (fun vs => k (m + 1) vs) = _
      have hne : L.flatMap c ≠ [] := by
        intro e; rw [e] at hlen
        have h3 : (m + 1) * n = 0 := hlen.symm
        rw [Nat.add_mul] at h3; omega
      rw [show Nat.mul (m + 1) n = (L.flatMap c).length by rw [hlen]; rfl, loadN_row r rfl hne (by rw [hlen]; omega)]
/-- append([]T{e}, l...) -/
theorem AP.lit {id : B} {cs : List V} {el : Nat} (o : Own h id cs) (hcs : cs.length = n) (hn : 1 ≤ n) (hc : ∀ e, (c e).length = n) (a : Ss n c h v L) (hf : B.val h.floor ≤ B.val h.next) (hb : (1 + L.length) * n ≤ 1048576)
    (k0 : L = [] → N.go P (.l id 0 0 1 n (some 1)) h)
    (k1 : ∀ v' h', L ≠ [] → Buf h' el n v' (cs ++ L.flatMap c) → Top h' v' → Stay nowhere h h' → (∀ i, isOf v' i → B.val h.next ≤ B.val i) → N.go P v' h') : AP P el n (.l id 0 0 1 n (some 1)) v h N := by
  have hlen := fm_len hc L
  cases hm : L.length with
  | zero =>
    have : L = [] := List.eq_nil_of_length_eq_zero hm
    subst this
    refine hm_of (v := .l id 0 0 1 n (some 1)) (h' := h) (fun k => ?_) (k0 rfl)
    rw [new_ss a hc hn]; rfl
  | succ m =>
    have hne : L ≠ [] := by intro e; rw [e] at hm; simp at hm
    have hb1 : 1 + L.length ≤ 1048576 := by
      have := Nat.mul_le_mul_left (1 + L.length) hn
      omega
    have hcn : (1 + L.length) * n = n + L.length * n := by rw [Nat.add_mul]; omega
    obtain ⟨h', a1, a2, a3, blk, b1, b2, b3, b4, b5, b6, b7⟩ := alloc_new el (cs ++ L.flatMap c) h (by rw [List.length_append]; omega)
    refine hm_of (v := .l h.next 0 0 (1 + L.length) ((1 + L.length) * n) none) (h' := h') (fun k => ?_) (k1 _ h' hne ?_ ?_ a2 ?_)
    · rw [new_ss a hc hn]
      show boolK (Nat.ble (Nat.add 1 L.length) 1) (fun _ => appIn id 0 0 1 n 1 n L.length (L.flatMap c) h k) (fun _ => appOut el id 0 0 1 n n L.length (L.flatMap c) h k) = _
      have e1 : Nat.ble (Nat.add 1 L.length) 1 = false := by
        cases hx : Nat.ble (Nat.add 1 L.length) 1 with
        | false => rfl
        | true => have := Nat.le_of_ble_eq_true hx; have h2 : 1 + L.length ≤ 1 := this; omega
      rw [e1]
      show appOut el id 0 0 1 n n L.length (L.flatMap c) h k = _
      unfold appOut
      have e2 : Nat.ble (Nat.add 1 L.length) 1048576 = true := by rw [Nat.ble_eq]; exact hb1
      rw [e2, ifK_true, show Nat.mul 1 n = cs.length by rw [hcs]; show 1 * n = n; omega, loadZ_pos (by omega), loadN_row o.row rfl (by intro e; rw [e] at hcs; simp at hcs; omega) (by omega), app_eq, a1, fN_eq, fN_eq]
      rfl
    · refine .inr ⟨h.next, 0, 1 + L.length, blk, by rw [List.length_append, hlen, hcs, ← hcn], by omega, by rw [List.length_append, hlen, hcs, ← hcn], by rw [a2.floor]; exact hf, by omega, b1, ⟨by omega, by omega⟩, b4, b5, b6, b7⟩
    · intro id' g off m' fin cap e
      cases e
      exact ⟨blk, b1, b3⟩
    · rintro i ⟨g, off, m', fin, cap, e⟩
      cases e; exact Nat.le_refl _
end
end Go.Ev

set_option linter.all false
namespace Go.Ev
open Go
structure Ent where
  key : List UInt8
  seq : Int
  del : Bool
  val : List UInt8
deriving DecidableEq
def entZ : Ent := ⟨[], 0, false, []⟩
instance : Inhabited Ent := ⟨entZ⟩
def entC (e : Ent) : List V := [sv e.key, .i .i64 e.seq, .b e.del, sv e.val]
theorem entC_len (e : Ent) : (entC e).length = 4 := rfl
def Es (h : H) (v : V) (L : List Ent) : Prop := Ss 4 entC h v L
section
variable {P : Program} {h h' g' : H} {N : Nx} {v : V} {L : List Ent} {i d : Nat}
theorem Es.ln (a : Es h v L) : H1 P gLen v g' N = N.go P (.i .i64 (L.length : Int)) g' := Ss.ln a
theorem Es.ix (a : Es h v L) (hi : i < L.length) : IX P 4 v i g' N = N.go P (.p (lid v) (lg v) (loff v + i * 4) (lfin v)) g' := Ss.ix a hi
theorem Es.l0 (a : Es h v L) (hi : i < L.length) : L1 P (lid v) (lg v) (loff v + i * 4) (lfin v) h N = N.go P (sv (L.getD i default).key) h := Ss.ld (d := 0) a entC_len hi (by omega)
theorem Es.l1 (a : Es h v L) (hi : i < L.length) : L1 P (lid v) (lg v) (loff v + i * 4 + 1) (lfin v) h N = N.go P (.i .i64 (L.getD i default).seq) h := Ss.ld (d := 1) a entC_len hi (by omega)
theorem Es.l2 (a : Es h v L) (hi : i < L.length) : L1 P (lid v) (lg v) (loff v + i * 4 + 2) (lfin v) h N = N.go P (.b (L.getD i default).del) h := Ss.ld (d := 2) a entC_len hi (by omega)
theorem Es.l3 (a : Es h v L) (hi : i < L.length) : L1 P (lid v) (lg v) (loff v + i * 4 + 3) (lfin v) h N = N.go P (sv (L.getD i default).val) h := Ss.ld (d := 3) a entC_len hi (by omega)
theorem Es.la (a : Es h v L) (hi : i < L.length) : LN P (lid v) (lg v) (loff v + i * 4) (lfin v) 4 h N = N.go P (.a [sv (L.getD i default).key, .i .i64 (L.getD i default).seq, .b (L.getD i default).del, sv (L.getD i default).val]) h := Ss.ldA a entC_len (by omega) hi
theorem Es.grow (a : Es h v L) (s : Stay nowhere h h') : Es h' v L := Ss.grow a s
end
/-- of a write -/
def isW (key : List UInt8) (del : Bool) (val : List UInt8) : Bool := decide (1 ≤ key.length ∧ key.length ≤ 13 ∧ val.length ≤ 24 ∧ (del = true → val = []))
def isE (e : Ent) : Bool := decide (1 ≤ e.seq ∧ e.seq ≤ 1000000) && isW e.key e.del e.val
theorem isE_iff {e : Ent} : isE e = true ↔ (1 ≤ e.seq ∧ e.seq ≤ 1000000) ∧ 1 ≤ e.key.length ∧ e.key.length ≤ 13 ∧ e.val.length ≤ 24 ∧ (e.del = true → e.val = []) := by
  unfold isE isW; rw [Bool.and_eq_true, decide_eq_true_eq, decide_eq_true_eq]
theorem isE_in {e : Ent} (h1 : 1 ≤ e.seq) (h2 : e.seq ≤ 1000000) : isE e = isW e.key e.del e.val := by unfold isE; rw [decide_eq_true ⟨h1, h2⟩, Bool.true_and]
theorem isE_lo {e : Ent} (h1 : e.seq < 1) : isE e = false := by unfold isE; rw [decide_eq_false (by omega), Bool.false_and]
theorem isE_hi {e : Ent} (h1 : 1000000 < e.seq) : isE e = false := by unfold isE; rw [decide_eq_false (by omega), Bool.false_and]
section
variable {k v : List UInt8} {d : Bool}
theorem isW_lo (h : (k.length : Int) < 1) : isW k d v = false := by unfold isW; rw [decide_eq_false_iff_not]; rintro ⟨a, _⟩; omega
theorem isW_hi (h : 13 < (k.length : Int)) : isW k d v = false := by unfold isW; rw [decide_eq_false_iff_not]; rintro ⟨_, a, _⟩; omega
theorem isW_t (h1 : 1 ≤ (k.length : Int)) (h2 : (k.length : Int) ≤ 13) (hd : d = true) : isW k d v = decide (v = []) := by
  subst hd; unfold isW; congr 1
  refine propext ⟨fun h => h.2.2.2 rfl, fun e => ?_⟩
  subst e; exact ⟨by omega, by omega, by simp, fun _ => rfl⟩
theorem isW_f (h1 : 1 ≤ (k.length : Int)) (h2 : (k.length : Int) ≤ 13) (hd : d = false) : isW k d v = decide ((v.length : Int) ≤ 24) := by
  subst hd; unfold isW; congr 1
  exact propext ⟨fun h => by omega, fun e => ⟨by omega, by omega, by omega, fun h => by cases h⟩⟩
end
def lessE (a b : Ent) : Bool := if a.key = b.key then decide (b.seq < a.seq) else Op.bytesLess a.key b.key
/-- the first k places are in order -/
def srtU (L : List Ent) (k : Nat) : Bool := (List.range k).all fun j => lessE (L.getD j default) (L.getD (j + 1) default)
def sortedE (L : List Ent) : Bool := srtU L (L.length - 1)
theorem srtU_succ (L : List Ent) (k : Nat) : srtU L (k + 1) = (srtU L k && lessE (L.getD k default) (L.getD (k + 1) default)) := by
  unfold srtU; rw [List.range_succ, List.all_append]; simp
theorem srtU_at {L : List Ent} {j k : Nat} (h : srtU L k = true) (hj : j < k) : lessE (L.getD j default) (L.getD (j + 1) default) = true := by
  unfold srtU at h
  rw [List.all_eq_true] at h
  exact h j (by rw [List.mem_range]; exact hj)
theorem sorted_no {L : List Ent} {j : Nat} (hj : j + 1 < L.length) (h : lessE (L.getD j default) (L.getD (j + 1) default) = false) : sortedE L = false := by
  cases hs : sortedE L with
  | false => rfl
  | true => have := srtU_at (j := j) hs (by omega); rw [h] at this; cases this
theorem bl_cons {x y : UInt8} {a b : List UInt8} : Op.bytesLess (x :: a) (y :: b) = true ↔ x.toNat < y.toNat ∨ (x = y ∧ Op.bytesLess a b = true) := by
  simp only [Op.bytesLess, Bool.or_eq_true, Bool.and_eq_true, decide_eq_true_eq, beq_iff_eq, UInt8.lt_iff_toNat_lt]
theorem bl_irr : ∀ l : List UInt8, Op.bytesLess l l = false
  | [] => rfl
  | c :: l => by
    cases h : Op.bytesLess (c :: l) (c :: l) with
    | false => rfl
    | true =>
      rcases bl_cons.1 h with h | ⟨_, h⟩
      · omega
      · rw [bl_irr l] at h; cases h
theorem bl_trans : ∀ {a b c : List UInt8}, Op.bytesLess a b = true → Op.bytesLess b c = true → Op.bytesLess a c = true
  | a, [], c, h, _ => by cases a <;> cases h
  | _, _ :: _, [], _, h => by cases h
  | [], _ :: _, _ :: _, _, _ => rfl
  | x :: a, y :: b, z :: c, h, g => by
    rcases bl_cons.1 h with h1 | ⟨h1, h2⟩ <;> rcases bl_cons.1 g with g1 | ⟨g1, g2⟩
    · exact bl_cons.2 (.inl (by omega))
    · exact bl_cons.2 (.inl (by rw [← g1]; exact h1))
    · exact bl_cons.2 (.inl (by rw [h1]; exact g1))
    · exact bl_cons.2 (.inr ⟨h1.trans g1, bl_trans h2 g2⟩)
theorem bl_total : ∀ {a b : List UInt8}, a ≠ b → Op.bytesLess a b = true ∨ Op.bytesLess b a = true
  | [], [], h => absurd rfl h
  | [], _ :: _, _ => .inl rfl
  | _ :: _, [], _ => .inr rfl
  | x :: a, y :: b, h => by
    by_cases e : x = y
    · subst e
      rcases bl_total (a := a) (b := b) (fun e => h (by rw [e])) with g | g
      · exact .inl (bl_cons.2 (.inr ⟨rfl, g⟩))
      · exact .inr (bl_cons.2 (.inr ⟨rfl, g⟩))
    · have : x.toNat ≠ y.toNat := fun g => e (UInt8.toNat_inj.1 g)
      rcases Nat.lt_or_ge x.toNat y.toNat with g | g
      · exact .inl (bl_cons.2 (.inl g))
      · exact .inr (bl_cons.2 (.inl (by omega)))
theorem lessE_ne {a b : Ent} (h : ¬ a.key = b.key) : lessE a b = Op.bytesLess a.key b.key := if_neg h
theorem lessE_eq {a b : Ent} (h : a.key = b.key) : lessE a b = decide (b.seq < a.seq) := if_pos h
theorem lessE_irr (a : Ent) : lessE a a = false := by unfold lessE; simp
theorem lessE_trans {a b c : Ent} (h : lessE a b = true) (g : lessE b c = true) : lessE a c = true := by
  unfold lessE at *
  by_cases e1 : a.key = b.key <;> by_cases e2 : b.key = c.key
  · rw [if_pos e1] at h; rw [if_pos e2] at g; rw [if_pos (e1.trans e2)]
    simp at h g ⊢; omega
  · rw [if_neg e2] at g; rw [e1, if_neg e2]; exact g
  · rw [if_neg e1] at h; rw [← e2, if_neg e1]; exact h
  · rw [if_neg e1] at h; rw [if_neg e2] at g
    have := bl_trans h g
    rw [if_neg]
    · exact this
    · intro e; rw [e, bl_irr] at this; cases this
theorem lessE_asym {a b : Ent} (h : lessE a b = true) : lessE b a = false := by
  cases g : lessE b a with
  | false => rfl
  | true => have := lessE_trans h g; rw [lessE_irr] at this; cases this
section
variable {s k v : List UInt8} {n m j : Nat} {q e : Int}
end
theorem sorted_lt {L : List Ent} (hs : sortedE L = true) : ∀ {i j : Nat}, i < j → j < L.length → lessE (L.getD i default) (L.getD j default) = true := by
  intro i j hij
  induction j with
  | zero => omega
  | succ j ih =>
    intro hj
    have h1 : lessE (L.getD j default) (L.getD (j + 1) default) = true := srtU_at (k := L.length - 1) hs (by omega)
    by_cases e : i = j
    · subst e; exact h1
    · exact lessE_trans (ih (by omega) (by omega)) h1
theorem sorted_of {L : List Ent} (h : ∀ j, j + 1 < L.length → lessE (L.getD j default) (L.getD (j + 1) default) = true) : sortedE L = true := by
  unfold sortedE srtU
  rw [List.all_eq_true]
  intro j hj
  rw [List.mem_range] at hj
  exact h j (by omega)
theorem sorted_drop {L : List Ent} (hs : sortedE L = true) (k : Nat) : sortedE (L.drop k) = true := by
  refine sorted_of fun j hj => ?_
  rw [List.length_drop] at hj
  have e : ∀ i, (L.drop k).getD i default = L.getD (k + i) default := fun i => by simp [List.getD]
  rw [e j, e (j + 1)]
  exact sorted_lt hs (by omega) (by omega)
theorem all_at {p : Ent → Bool} {L : List Ent} {i : Nat} (hi : i < L.length) (h : p (L.getD i default) = false) : L.all p = false := by
  rw [List.all_eq_false]
  refine ⟨L[i], by simp, ?_⟩
  rw [show L.getD i default = L[i] by simp [List.getD, hi]] at h
  rw [h]; decide
theorem all_ok {p : Ent → Bool} {L : List Ent} (h : ∀ j, j < L.length → p (L.getD j default) = true) : L.all p = true := by
  rw [List.all_eq_true]
  intro y hy
  obtain ⟨j, hj, rfl⟩ := List.getElem_of_mem hy
  have := h j hj
  rwa [show L.getD j default = L[j] by simp [List.getD, hj]] at this
end Go.Ev

set_option linter.all false
namespace Go.Proofs.Ytnjgoggnhdpnoaa
open Go Go.Ev
/-- is one of that key and number there -/
def hasE (L : List Ent) (x : Ent) : Bool := L.any fun a => decide (a.key = x.key ∧ a.seq = x.seq)
def insE (x : Ent) : List Ent → List Ent
  | [] => [x]
  | a :: L => if lessE x a then x :: a :: L else a :: insE x L
/-- .. unless it is there -/
def addE (L : List Ent) (x : Ent) : List Ent := if hasE L x then L else insE x L
theorem addE_has {L : List Ent} {x : Ent} (h : hasE L x = true) : addE L x = L := by unfold addE; rw [h]; rfl
theorem addE_new {L : List Ent} {x : Ent} (h : hasE L x = false) : addE L x = insE x L := by unfold addE; rw [h]; rfl
theorem hasE_mem {L : List Ent} {x : Ent} : hasE L x = true ↔ ∃ a ∈ L, a.key = x.key ∧ a.seq = x.seq := by
  unfold hasE; rw [List.any_eq_true]
  exact ⟨fun ⟨a, h1, h2⟩ => ⟨a, h1, of_decide_eq_true h2⟩, fun ⟨a, h1, h2⟩ => ⟨a, h1, decide_eq_true h2⟩⟩
theorem insE_len (x : Ent) : ∀ L : List Ent, (insE x L).length = L.length + 1
  | [] => rfl
  | a :: L => by unfold insE; split <;> simp [insE_len x L]
theorem insE_mem {x a : Ent} : ∀ {L : List Ent}, a ∈ insE x L ↔ a = x ∨ a ∈ L
  | [] => by simp [insE]
  | b :: L => by
    unfold insE
    split
    · simp
    · rw [List.mem_cons, insE_mem (L := L), List.mem_cons]
      constructor
      · rintro (h | h | h)
        · exact .inr (.inl h)
        · exact .inl h
        · exact .inr (.inr h)
      · rintro (h | h | h)
        · exact .inr (.inl h)
        · exact .inl h
        · exact .inr (.inr h)
theorem insE_none {x : Ent} : ∀ {A : List Ent}, (∀ a ∈ A, lessE x a = false) → ∀ C, insE x (A ++ C) = A ++ insE x C
  | [], _, C => rfl
  | a :: A, h, C => by
    have h1 := h a (by simp)
    show (if lessE x a then _ else a :: insE x (A ++ C)) = _
    rw [h1, insE_none (fun b hb => h b (List.mem_cons_of_mem _ hb)) C]; rfl
theorem lessE_tot {a b : Ent} (h : ¬ (a.key = b.key ∧ a.seq = b.seq)) : lessE a b = true ∨ lessE b a = true := by
  unfold lessE
  by_cases hk : a.key = b.key
  · rw [if_pos hk, if_pos hk.symm, decide_eq_true_eq, decide_eq_true_eq]
    have : a.seq ≠ b.seq := fun e => h ⟨hk, e⟩
    omega
  · rw [if_neg hk, if_neg (fun e => hk e.symm)]
    exact bl_total hk
/-- in order: each is ahead of all behind it -/
theorem sorted_pw {L : List Ent} : sortedE L = true ↔ L.Pairwise fun a b => lessE a b = true := by
  constructor
  · intro h
    rw [List.pairwise_iff_getElem]
    intro i j hi hj hij
    have := sorted_lt h hij hj
    rwa [List.getD_eq_getElem?_getD, List.getD_eq_getElem?_getD, List.getElem?_eq_getElem hi, List.getElem?_eq_getElem hj] at this
  · intro h
    rw [List.pairwise_iff_getElem] at h
    unfold sortedE srtU
    rw [List.all_eq_true]
    intro i hi
    rw [List.mem_range] at hi
    have := h i (i + 1) (by omega) (by omega) (by omega)
    rwa [List.getD_eq_getElem?_getD, List.getD_eq_getElem?_getD, List.getElem?_eq_getElem (by omega : i < L.length), List.getElem?_eq_getElem (by omega : i + 1 < L.length)]
theorem insE_pw {x : Ent} : ∀ {L : List Ent}, L.Pairwise (fun a b => lessE a b = true) → hasE L x = false → (insE x L).Pairwise fun a b => lessE a b = true
  | [], _, _ => by simp [insE]
  | a :: L, h, hx => by
    rw [List.pairwise_cons] at h
    unfold insE
    cases ha : lessE x a with
    | true =>
      rw [if_pos rfl, List.pairwise_cons]
      refine ⟨fun b hb => ?_, List.pairwise_cons.2 h⟩
      rcases List.mem_cons.1 hb with e | e
      · rw [e]; exact ha
      · exact lessE_trans ha (h.1 b e)
    | false =>
      rw [if_neg (by simp), List.pairwise_cons]
      have hna : ¬ (x.key = a.key ∧ x.seq = a.seq) := fun e => by
        have : hasE (a :: L) x = true := hasE_mem.2 ⟨a, by simp, e.1.symm, e.2.symm⟩
        rw [this] at hx; cases hx
      have hax : lessE a x = true := (lessE_tot hna).resolve_left (by rw [ha]; simp)
      have hLx : hasE L x = false := by
        cases hh : hasE L x with
        | false => rfl
        | true =>
          obtain ⟨b, hb, e⟩ := hasE_mem.1 hh
          have : hasE (a :: L) x = true := hasE_mem.2 ⟨b, List.mem_cons_of_mem _ hb, e⟩
          rw [this] at hx; cases hx
      refine ⟨fun b hb => ?_, insE_pw h.2 hLx⟩
      rcases insE_mem.1 hb with e | e
      · rw [e]; exact hax
      · exact h.1 b e
theorem insE_sorted {x : Ent} {L : List Ent} (h : sortedE L = true) (hx : hasE L x = false) : sortedE (insE x L) = true := sorted_pw.2 (insE_pw (sorted_pw.1 h) hx)
theorem addE_sorted {x : Ent} {L : List Ent} (h : sortedE L = true) : sortedE (addE L x) = true := by
  unfold addE
  split
  · exact h
  · rename_i hc; exact insE_sorted h (by simpa using hc)
theorem addE_len (x : Ent) (L : List Ent) : (addE L x).length ≤ L.length + 1 := by
  unfold addE
  split
  · exact Nat.le_succ _
  · exact Nat.le_of_eq (insE_len x L)
/-- rows in order with the same entries are the same -/
theorem pw_ext : ∀ {A C : List Ent}, A.Pairwise (fun a b => lessE a b = true) → C.Pairwise (fun a b => lessE a b = true) → (∀ a, a ∈ A ↔ a ∈ C) → A = C
  | [], [], _, _, _ => rfl
  | [], c :: C, _, _, h => by have := (h c).2 (by simp); cases this
  | a :: A, [], _, _, h => by have := (h a).1 (by simp); cases this
  | a :: A, c :: C, h1, h2, h => by
    rw [List.pairwise_cons] at h1 h2
    have irr : ∀ x : Ent, ¬ lessE x x = true := fun x hx => by have := lessE_asym hx; rw [hx] at this; cases this
    have e : a = c := by
      rcases List.mem_cons.1 ((h a).1 (by simp)) with e | e
      · exact e
      · rcases List.mem_cons.1 ((h c).2 (by simp)) with e2 | e2
        · exact e2.symm
        · have := lessE_asym (h1.1 c e2); rw [h2.1 a e] at this; cases this
    subst e
    congr 1
    refine pw_ext h1.2 h2.2 fun x => ?_
    constructor
    · intro hx
      rcases List.mem_cons.1 ((h x).1 (List.mem_cons_of_mem _ hx)) with e | e
      · rw [e] at hx; exact absurd (h1.1 a hx) (irr a)
      · exact e
    · intro hx
      rcases List.mem_cons.1 ((h x).2 (List.mem_cons_of_mem _ hx)) with e | e
      · rw [e] at hx; exact absurd (h2.1 a hx) (irr a)
      · exact e
theorem sorted_ext {A C : List Ent} (h1 : sortedE A = true) (h2 : sortedE C = true) (h : ∀ a, a ∈ A ↔ a ∈ C) : A = C := pw_ext (sorted_pw.1 h1) (sorted_pw.1 h2) h
end Go.Proofs.Ytnjgoggnhdpnoaa

set_option linter.all false
namespace Go.Proofs.Ytnjgoggnhdpnoaa
open Go Go.Ev
/-- in order, two places -/
theorem pw_at {L : List Ent} (h : sortedE L = true) {i j : Nat} (hij : i < j) (hj : j < L.length) : lessE (L.getD i default) (L.getD j default) = true := sorted_lt h hij hj
theorem getD_memE {L : List Ent} {i : Nat} (hi : i < L.length) : L.getD i default ∈ L := by rw [List.getD_eq_getElem?_getD, List.getElem?_eq_getElem hi]; simp
theorem mem_getD {L : List Ent} {a : Ent} (h : a ∈ L) : ∃ i, i < L.length ∧ L.getD i default = a := by
  obtain ⟨i, hi, rfl⟩ := List.getElem_of_mem h
  exact ⟨i, hi, by rw [List.getD_eq_getElem?_getD, List.getElem?_eq_getElem hi]; rfl⟩
theorem less_same {a b : Ent} (h : lessE a b = true) (hk : a.key = b.key) : b.seq < a.seq := by
  unfold lessE at h
  rw [if_pos hk, decide_eq_true_eq] at h; exact h
theorem less_of {a b : Ent} (hk : a.key = b.key) (h : b.seq < a.seq) : lessE a b = true := by unfold lessE; rw [if_pos hk, decide_eq_true_eq]; exact h
/-- of one key they stand together -/
theorem key_mid {a b c : Ent} (h1 : lessE a b = true) (h2 : lessE b c = true) (hk : a.key = c.key) : b.key = a.key := by
  refine Classical.byContradiction fun hne => ?_
  have h1' : Op.bytesLess a.key b.key = true := by unfold lessE at h1; rwa [if_neg (fun e => hne e.symm)] at h1
  have h2' : Op.bytesLess b.key c.key = true := by unfold lessE at h2; rwa [if_neg (fun e => hne (e.trans hk.symm))] at h2
  have := bl_trans h1' h2'
  rw [hk, bl_irr] at this; cases this
/-- a newer one of that key, up to s -/
def newer (L : List Ent) (e : Ent) (s : Int) : Bool := L.any fun a => decide (a.key = e.key ∧ e.seq < a.seq ∧ a.seq ≤ s)
theorem newer_iff {L : List Ent} {e : Ent} {s : Int} : newer L e s = true ↔ ∃ a ∈ L, a.key = e.key ∧ e.seq < a.seq ∧ a.seq ≤ s := by
  unfold newer; rw [List.any_eq_true]
  exact ⟨fun ⟨a, h1, h2⟩ => ⟨a, h1, of_decide_eq_true h2⟩, fun ⟨a, h1, h2⟩ => ⟨a, h1, decide_eq_true h2⟩⟩
/-- it stands just ahead -/
theorem newer_at {L : List Ent} (h : sortedE L = true) {i : Nat} (hi : i < L.length) {s : Int} :
    newer L (L.getD i default) s = true ↔ 0 < i ∧ (L.getD (i - 1) default).key = (L.getD i default).key ∧ (L.getD (i - 1) default).seq ≤ s := by
  rw [newer_iff]
  constructor
  · rintro ⟨a, ha, hk, h1, h2⟩
    obtain ⟨j, hj, rfl⟩ := mem_getD ha
    have hji : j < i := by
      rcases Nat.lt_trichotomy j i with h3 | h3 | h3
      · exact h3
      · subst h3; omega
      · have := less_same (pw_at h h3 hj) hk.symm; omega
    refine ⟨by omega, ?_⟩
    by_cases e : j = i - 1
    · rw [← e]; exact ⟨hk, h2⟩
    · have a1 := pw_at h (show j < i - 1 by omega) (by omega)
      have a2 := pw_at h (show i - 1 < i by omega) hi
      have hk2 := key_mid a1 a2 hk
      have := less_same a1 hk2.symm
      exact ⟨hk2.trans hk, by omega⟩
  · rintro ⟨h0, hk, h2⟩
    exact ⟨_, getD_memE (by omega), hk, less_same (pw_at h (show i - 1 < i by omega) hi) hk, h2⟩
/-- what is kept: somebody sees it, or it is the newest -/
def wantP (L : List Ent) (held : List Int) (e : Ent) : Bool := ((1000000 : Int) :: held).any fun n => decide (e.seq ≤ n) && !newer L e n
theorem wantP_iff {L : List Ent} {held : List Int} {e : Ent} : wantP L held e = true ↔ ∃ n ∈ (1000000 : Int) :: held, e.seq ≤ n ∧ newer L e n = false := by
  unfold wantP; rw [List.any_eq_true]
  constructor
  · rintro ⟨n, h1, h2⟩
    rw [Bool.and_eq_true, Bool.not_eq_true'] at h2
    exact ⟨n, h1, of_decide_eq_true h2.1, h2.2⟩
  · rintro ⟨n, h1, h2, h3⟩
    exact ⟨n, h1, by rw [decide_eq_true h2, h3]; rfl⟩
/-- from the end on, deleted ones of which nothing older is left go -/
def botE : List Ent → List Ent
  | [] => []
  | x :: K => if x.del = true ∧ (botE K = [] ∨ ((botE K).getD 0 default).key ≠ x.key) then botE K else x :: botE K
theorem botE_del {x : Ent} {K : List Ent} (h : x.del = true) (h2 : botE K = [] ∨ ((botE K).getD 0 default).key ≠ x.key) : botE (x :: K) = botE K := if_pos ⟨h, h2⟩
theorem botE_put {x : Ent} {K : List Ent} (h : x.del = false) : botE (x :: K) = x :: botE K := if_neg (by rw [h]; rintro ⟨h, _⟩; cases h)
theorem botE_same {x : Ent} {K : List Ent} (h1 : botE K ≠ []) (h2 : ((botE K).getD 0 default).key = x.key) : botE (x :: K) = x :: botE K := if_neg (by rintro ⟨_, h | h⟩; exact h1 h; exact h h2)
theorem botE_sub : ∀ K : List Ent, (botE K).Sublist K
  | [] => List.Sublist.slnil
  | x :: K => by
    show (if _ then _ else _ : List Ent).Sublist _
    split
    · exact (botE_sub K).cons x
    · exact (botE_sub K).cons_cons x
def packE (L : List Ent) (held : List Int) (bottom : Bool) : List Ent :=
  if L.all isE && sortedE L then (if bottom then botE (L.filter (wantP L held)) else L.filter (wantP L held)) else []
theorem packE_bad {L : List Ent} {held : List Int} {b : Bool} (h : L.all isE = false ∨ sortedE L = false) : packE L held b = [] := by
  unfold packE
  rcases h with h | h <;> rw [h]
  · rfl
  · rw [Bool.and_false]; rfl
theorem packE_ok {L : List Ent} {held : List Int} {b : Bool} (h1 : L.all isE = true) (h2 : sortedE L = true) : packE L held b = if b then botE (L.filter (wantP L held)) else L.filter (wantP L held) := by
  unfold packE; rw [h1, h2]; rfl
theorem sub_sorted {A L : List Ent} (h : A.Sublist L) (hs : sortedE L = true) : sortedE A = true := sorted_pw.2 ((sorted_pw.1 hs).sublist h)
/-- rows put together, one by one -/
def addsE (L M : List Ent) : List Ent := M.foldl addE L
theorem addsE_snoc (L M : List Ent) (x : Ent) : addsE L (M ++ [x]) = addE (addsE L M) x := by unfold addsE; rw [List.foldl_append]; rfl
theorem addsE_sorted {M : List Ent} : ∀ {L : List Ent}, sortedE L = true → sortedE (addsE L M) = true := by
  induction M with
  | nil => exact fun h => h
  | cons x M ih => exact fun h => ih (L := addE _ x) (addE_sorted h)
theorem addsE_len {M : List Ent} : ∀ {L : List Ent}, (addsE L M).length ≤ L.length + M.length := by
  induction M with
  | nil => exact fun {L} => Nat.le_refl _
  | cons x M ih =>
    intro L
    have h1 := ih (L := addE L x)
    have h2 := addE_len x L
    show (addsE (addE L x) M).length ≤ _
    rw [List.length_cons]; omega
theorem addsE_app (L A C : List Ent) : addsE L (A ++ C) = addsE (addsE L A) C := by unfold addsE; rw [List.foldl_append]
def rowsE (R : List (List Ent)) : List Ent × Bool := if R.all sortedE then (addsE [] R.flatten, true) else ([], false)
theorem rowsE_bad {R : List (List Ent)} (h : R.all sortedE = false) : rowsE R = ([], false) := by unfold rowsE; rw [h]; rfl
theorem rowsE_ok {R : List (List Ent)} (h : R.all sortedE = true) : rowsE R = (addsE [] R.flatten, true) := by unfold rowsE; rw [h]; rfl
end Go.Proofs.Ytnjgoggnhdpnoaa

set_option linter.all false
namespace Go.Proofs.Ytnjgoggnhdpnoaa
open Go Go.Ev
theorem addsE_from {M : List Ent} : ∀ {L : List Ent} {a : Ent}, a ∈ addsE L M → a ∈ L ∨ a ∈ M := by
  induction M with
  | nil => exact fun h => .inl h
  | cons x M ih =>
    intro L a h
    rcases ih (L := addE L x) h with h | h
    · unfold addE at h
      split at h
      · exact .inl h
      · rcases insE_mem.1 h with e | e
        · exact .inr (by rw [e]; simp)
        · exact .inl e
    · exact .inr (List.mem_cons_of_mem _ h)
theorem addsE_keep {M : List Ent} : ∀ {L : List Ent} {a : Ent}, a ∈ L → a ∈ addsE L M := by
  induction M with
  | nil => exact fun h => h
  | cons x M ih =>
    intro L a h
    refine ih (L := addE L x) ?_
    unfold addE
    split
    · exact h
    · exact insE_mem.2 (.inr h)
theorem addsE_has {M : List Ent} : ∀ {L : List Ent} {x : Ent}, x ∈ M → ∃ a ∈ addsE L M, a.key = x.key ∧ a.seq = x.seq := by
  induction M with
  | nil => exact fun h => by cases h
  | cons y M ih =>
    intro L x h
    rcases List.mem_cons.1 h with e | e
    · subst e
      have : ∃ a ∈ addE L x, a.key = x.key ∧ a.seq = x.seq := by
        unfold addE
        cases hh : hasE L x with
        | true => exact hasE_mem.1 hh
        | false => exact ⟨x, insE_mem.2 (.inl rfl), rfl, rfl⟩
      obtain ⟨a, h1, h2⟩ := this
      exact ⟨a, addsE_keep (L := addE L x) h1, h2⟩
    · exact ih (L := addE L y) e
/-- all of a row in order, in whatever way, are the row -/
theorem addsE_row {R M : List Ent} (hs : sortedE R = true) (h1 : ∀ a ∈ M, a ∈ R) (h2 : ∀ a ∈ R, a ∈ M) : addsE [] M = R := by
  have hu : ∀ a ∈ R, ∀ b ∈ R, a.key = b.key → a.seq = b.seq → a = b := fun a ha b hb hk hq => by
    obtain ⟨i, hi, rfl⟩ := mem_getD ha
    obtain ⟨j, hj, rfl⟩ := mem_getD hb
    rcases Nat.lt_trichotomy i j with h | h | h
    · have := less_same (pw_at hs h hj) hk; omega
    · rw [h]
    · have := less_same (pw_at hs h hi) hk.symm; omega
  have hf : ∀ a, a ∈ addsE [] M → a ∈ R := fun a ha => by
    rcases addsE_from ha with h | h
    · cases h
    · exact h1 a h
  refine sorted_ext (addsE_sorted (L := []) rfl) hs fun a => ⟨hf a, fun ha => ?_⟩
  obtain ⟨b, b1, b2, b3⟩ := addsE_has (L := []) (h2 a ha)
  rw [← hu b (hf b b1) a ha b2 b3]; exact b1
end Go.Proofs.Ytnjgoggnhdpnoaa

set_option maxRecDepth 1000000
set_option linter.all false
namespace Go.Proofs.Ytnjgoggnhdpnoaa
open Go Go.Ev
noncomputable abbrev s10_0 : CC := (CC.cond (tm 7) CC.skip (CC.exit 0))
noncomputable abbrev s10_1 : CC := (CC.seq (CC.region [(wB 4 (doMove (tm 3))), (wB 5 (doMove (tm 0))), (wB 6 (doLen (tm 5))), (wB 7 (bin2 fLss (tm 4) (tm 6)))]) s10_0)
noncomputable abbrev s10_2 : CC := (CC.seq (CC.region [(wB 2 (doMove (O.c (V.b Bool.false))))]) CC.ret)
noncomputable abbrev s10_3 : CC := (CC.cond (tm 25) s10_2 CC.skip)
noncomputable abbrev s10_4 : CC := (CC.seq (CC.region [(wB 10 (doMove (tm 0))), (wB 11 (doMove (tm 3))), (wB 12 (doIndexAddr 4 (tm 10) (tm 11))), (wB 13 (doFieldAddr 0 (tm 12))), (wB 14 (doLoad (tm 13))), (wB 15 (doLenS (tm 14))), (wB 16 (bin2 fGtr (tm 15) (oN 20))), (wB 17 (doMove (tm 16))), (wG 17 false 18 (doMove (tm 0))), (wG 17 false 19 (doMove (tm 3))), (wG 17 false 20 (doIndexAddr 4 (tm 18) (tm 19))), (wG 17 false 21 (doFieldAddr 3 (tm 20))), (wG 17 false 22 (doLoad (tm 21))), (wG 17 false 23 (doLenS (tm 22))), (wG 17 false 24 (bin2 fGtr (tm 23) (oN 40))), (wB 25 (doPick (tm 17) (O.c (V.b Bool.true)) (tm 24)))]) s10_3)
noncomputable abbrev s10_5 : CC := (CC.block 1 s10_4)
noncomputable abbrev s10_6 : CC := (CC.region [(wB 8 (doMove (tm 3))), (wB 9 (bin2 fAdd (tm 8) (oN 1))), (wB 3 (doMove (tm 9)))])
noncomputable abbrev s10_7 : CC := (CC.seq s10_5 s10_6)
noncomputable abbrev l10_0 : CC := (CC.seq s10_1 s10_7)
noncomputable abbrev s10_8 : CC := (CC.loop l10_0)
noncomputable abbrev s10_9 : CC := (CC.block 0 s10_8)
noncomputable abbrev s10_10 : CC := (CC.seq (CC.region [(wB 3 (doMove (oN 0)))]) s10_9)
noncomputable abbrev s10_11 : CC := (CC.seq (CC.region [(wB 26 (doMove (tm 0))), (wB 27 (doLen (tm 26))), (wB 28 (bin2 fLeq (tm 27) (oN 60))), (wB 2 (doMove (tm 28)))]) CC.ret)
noncomputable abbrev s10_12 : CC := (CC.seq s10_10 s10_11)
noncomputable abbrev b10 : CC := (CC.seq (CC.region [(wB 2 (doMove (O.c (V.b Bool.false))))]) s10_12)
noncomputable abbrev s9_0 : CC := (CC.cond (tm 7) CC.skip (CC.exit 0))
noncomputable abbrev s9_1 : CC := (CC.seq (CC.region [(wB 4 (doMove (tm 3))), (wB 5 (doMove (tm 0))), (wB 6 (doLen (tm 5))), (wB 7 (bin2 fLss (tm 4) (tm 6)))]) s9_0)
noncomputable abbrev s9_2 : CC := (CC.seq (CC.region [(wB 2 (doMove (O.c (V.b Bool.false))))]) CC.ret)
noncomputable abbrev s9_3 : CC := (CC.cond (tm 23) s9_2 CC.skip)
noncomputable abbrev s9_4 : CC := (CC.seq (CC.region [(wB 10 (doMove (tm 0))), (wB 11 (doMove (tm 3))), (wB 12 (doIndexAddr 1 (tm 10) (tm 11))), (wB 13 (doLoad (tm 12))), (wB 14 (doCall 10 [(tm 13)])), (wB 15 (doNot (tm 14))), (wB 16 (doMove (tm 15))), (wG 16 false 17 (doMove (tm 0))), (wG 16 false 18 (doMove (tm 3))), (wG 16 false 19 (doIndexAddr 1 (tm 17) (tm 18))), (wG 16 false 20 (doLoad (tm 19))), (wG 16 false 21 (doLen (tm 20))), (wG 16 false 22 (bin2 fGtr (tm 21) (oN 25))), (wB 23 (doPick (tm 16) (O.c (V.b Bool.true)) (tm 22)))]) s9_3)
noncomputable abbrev s9_5 : CC := (CC.block 1 s9_4)
noncomputable abbrev s9_6 : CC := (CC.region [(wB 8 (doMove (tm 3))), (wB 9 (bin2 fAdd (tm 8) (oN 1))), (wB 3 (doMove (tm 9)))])
noncomputable abbrev s9_7 : CC := (CC.seq s9_5 s9_6)
noncomputable abbrev l9_0 : CC := (CC.seq s9_1 s9_7)
noncomputable abbrev s9_8 : CC := (CC.loop l9_0)
noncomputable abbrev s9_9 : CC := (CC.block 0 s9_8)
noncomputable abbrev s9_10 : CC := (CC.seq (CC.region [(wB 3 (doMove (oN 0)))]) s9_9)
noncomputable abbrev s9_11 : CC := (CC.seq (CC.region [(wB 24 (doMove (tm 0))), (wB 25 (doLen (tm 24))), (wB 26 (bin2 fLeq (tm 25) (oN 5))), (wB 2 (doMove (tm 26)))]) CC.ret)
noncomputable abbrev s9_12 : CC := (CC.seq s9_10 s9_11)
noncomputable abbrev b9 : CC := (CC.seq (CC.region [(wB 2 (doMove (O.c (V.b Bool.false))))]) s9_12)
end Go.Proofs.Ytnjgoggnhdpnoaa

set_option maxRecDepth 1000000
set_option linter.all false
namespace Go.Proofs.Ytnjgoggnhdpnoaa
open Go Go.Ev
noncomputable abbrev s37_0 : CC := (CC.seq (CC.region [(wB 3 (doFieldAddr 1 (tm 1))), (wB 4 (doLoad (tm 3))), (wB 5 (bin2 fGeq (tm 4) (oN 1))), (wB 6 (doMove (tm 5))), (wG 6 true 7 (doFieldAddr 1 (tm 1))), (wG 6 true 8 (doLoad (tm 7))), (wG 6 true 9 (bin2 fLeq (tm 8) (oN 1000000))), (wB 10 (doPick (tm 6) (tm 9) (O.c (V.b Bool.false)))), (wB 11 (doMove (tm 10))), (wG 11 true 12 (doFieldAddr 0 (tm 1))), (wG 11 true 13 (doLoad (tm 12))), (wG 11 true 14 (doFieldAddr 2 (tm 1))), (wG 11 true 15 (doLoad (tm 14))), (wG 11 true 16 (doFieldAddr 3 (tm 1))), (wG 11 true 17 (doLoad (tm 16))), (wG 11 true 18 (doBuild [(V.s 0 0), (V.b Bool.false), (V.s 0 0)] [(Pt.mk 0 1 (tm 13)), (Pt.mk 1 1 (tm 15)), (Pt.mk 2 1 (tm 17))])), (wG 11 true 19 (doCall 41 [(tm 18)])), (wB 20 (doPick (tm 11) (tm 19) (O.c (V.b Bool.false)))), (wB 2 (doMove (tm 20)))]) CC.ret)
noncomputable abbrev b37 : CC := (CC.seq (CC.region [(wB 1 (doBox 39 (tm 0))), (wB 2 (doMove (O.c (V.b Bool.false))))]) s37_0)
theorem c37 : compFn Try.prog 37 = ⟨21, b37, [(Rs.tmp (slOf 2))]⟩ := by kernel_rfl
noncomputable abbrev s33_0 : CC := (CC.seq (CC.region [(wB 10 (doFieldAddr 0 (tm 2))), (wB 11 (doLoad (tm 10))), (wB 12 (doFieldAddr 0 (tm 3))), (wB 13 (doLoad (tm 12))), (wB 14 (doSCmp ltS (tm 11) (tm 13))), (wB 4 (doMove (tm 14)))]) CC.ret)
noncomputable abbrev s33_1 : CC := (CC.cond (tm 9) s33_0 CC.skip)
noncomputable abbrev s33_2 : CC := (CC.seq (CC.region [(wB 5 (doFieldAddr 0 (tm 2))), (wB 6 (doLoad (tm 5))), (wB 7 (doFieldAddr 0 (tm 3))), (wB 8 (doLoad (tm 7))), (wB 9 (doSCmp (fun a b c d => !eqS a b c d) (tm 6) (tm 8)))]) s33_1)
noncomputable abbrev s33_3 : CC := (CC.seq (CC.region [(wB 15 (doFieldAddr 1 (tm 2))), (wB 16 (doLoad (tm 15))), (wB 17 (doFieldAddr 1 (tm 3))), (wB 18 (doLoad (tm 17))), (wB 19 (bin2 fGtr (tm 16) (tm 18))), (wB 4 (doMove (tm 19)))]) CC.ret)
noncomputable abbrev s33_4 : CC := (CC.seq s33_2 s33_3)
noncomputable abbrev b33 : CC := (CC.seq (CC.region [(wB 2 (doBox 39 (tm 0))), (wB 3 (doBox 39 (tm 1))), (wB 4 (doMove (O.c (V.b Bool.false))))]) s33_4)
theorem c33 : compFn Try.prog 33 = ⟨20, b33, [(Rs.tmp (slOf 4))]⟩ := by kernel_rfl
noncomputable abbrev s21_0 : CC := (CC.cond (tm 7) CC.skip (CC.exit 0))
noncomputable abbrev s21_1 : CC := (CC.seq (CC.region [(wB 4 (doMove (tm 3))), (wB 5 (doMove (tm 0))), (wB 6 (doLen (tm 5))), (wB 7 (bin2 fLss (tm 4) (tm 6)))]) s21_0)
noncomputable abbrev s21_2 : CC := (CC.seq (CC.region [(wB 2 (doMove (O.c (V.b Bool.false))))]) CC.ret)
noncomputable abbrev s21_3 : CC := (CC.cond (tm 20) s21_2 CC.skip)
noncomputable abbrev s21_4 : CC := (CC.seq (CC.draws [(uB 10 (doMove (tm 0))), (uB 11 (doMove (tm 3))), (uB 12 (bin2 fSub (tm 11) (oN 1))), (uB 13 (doIndexAddr 4 (tm 10) (tm 12))), (uB 14 (doLoadA 4 (tm 13))), (uB 15 (doMove (tm 0))), (uB 16 (doMove (tm 3))), (uB 17 (doIndexAddr 4 (tm 15) (tm 16))), (uB 18 (doLoadA 4 (tm 17))), (wB 19 (doCall 33 [(tm 14), (tm 18)])), (uB 20 (doNot (tm 19)))]) s21_3)
noncomputable abbrev s21_5 : CC := (CC.block 1 s21_4)
noncomputable abbrev s21_6 : CC := (CC.region [(wB 8 (doMove (tm 3))), (wB 9 (bin2 fAdd (tm 8) (oN 1))), (wB 3 (doMove (tm 9)))])
noncomputable abbrev s21_7 : CC := (CC.seq s21_5 s21_6)
noncomputable abbrev l21_0 : CC := (CC.seq s21_1 s21_7)
noncomputable abbrev s21_8 : CC := (CC.loop l21_0)
noncomputable abbrev s21_9 : CC := (CC.block 0 s21_8)
noncomputable abbrev s21_10 : CC := (CC.seq (CC.region [(wB 3 (doMove (oN 1)))]) s21_9)
noncomputable abbrev s21_11 : CC := (CC.seq (CC.region [(wB 2 (doMove (O.c (V.b Bool.true))))]) CC.ret)
noncomputable abbrev s21_12 : CC := (CC.seq s21_10 s21_11)
noncomputable abbrev b21 : CC := (CC.seq (CC.region [(wB 2 (doMove (O.c (V.b Bool.false))))]) s21_12)
theorem c21 : compFn Try.prog 21 = ⟨21, b21, [(Rs.tmp (slOf 2))]⟩ := by kernel_rfl
noncomputable abbrev s41_0 : CC := (CC.seq (CC.region [(wB 2 (doMove (O.c (V.b Bool.false))))]) CC.ret)
noncomputable abbrev s41_1 : CC := (CC.cond (tm 12) s41_0 CC.skip)
noncomputable abbrev s41_2 : CC := (CC.seq (CC.region [(wB 3 (doFieldAddr 0 (tm 1))), (wB 4 (doLoad (tm 3))), (wB 5 (doLenS (tm 4))), (wB 6 (bin2 fLss (tm 5) (oN 1))), (wB 7 (doMove (tm 6))), (wG 7 false 8 (doFieldAddr 0 (tm 1))), (wG 7 false 9 (doLoad (tm 8))), (wG 7 false 10 (doLenS (tm 9))), (wG 7 false 11 (bin2 fGtr (tm 10) (oN 13))), (wB 12 (doPick (tm 7) (O.c (V.b Bool.true)) (tm 11)))]) s41_1)
noncomputable abbrev s41_3 : CC := (CC.seq (CC.region [(wB 15 (doFieldAddr 2 (tm 1))), (wB 16 (doLoad (tm 15))), (wB 17 (doSCmp eqS (tm 16) (O.c (V.s 0 0)))), (wB 2 (doMove (tm 17)))]) CC.ret)
noncomputable abbrev s41_4 : CC := (CC.cond (tm 14) s41_3 CC.skip)
noncomputable abbrev s41_5 : CC := (CC.seq (CC.region [(wB 13 (doFieldAddr 1 (tm 1))), (wB 14 (doLoad (tm 13)))]) s41_4)
noncomputable abbrev s41_6 : CC := (CC.seq (CC.region [(wB 18 (doFieldAddr 2 (tm 1))), (wB 19 (doLoad (tm 18))), (wB 20 (doLenS (tm 19))), (wB 21 (bin2 fLeq (tm 20) (oN 24))), (wB 2 (doMove (tm 21)))]) CC.ret)
noncomputable abbrev s41_7 : CC := (CC.seq s41_5 s41_6)
noncomputable abbrev s41_8 : CC := (CC.seq s41_2 s41_7)
noncomputable abbrev b41 : CC := (CC.seq (CC.region [(wB 1 (doBox 64 (tm 0))), (wB 2 (doMove (O.c (V.b Bool.false))))]) s41_8)
theorem c41 : compFn Try.prog 41 = ⟨22, b41, [(Rs.tmp (slOf 2))]⟩ := by kernel_rfl
end Go.Proofs.Ytnjgoggnhdpnoaa

namespace Go.Proofs.Ytnjgoggnhdpnoaa
open Go Go.Ev
theorem hmix : Try.prog.follows .mixedOrders = true := by kernel_rfl
open Go.Ev in
instance {nt : Nat} {t : F} {h : H} {K : X → F → H → Prop} {l : List CO} : St (Ok Try.prog nt (.draws l) t h K) (DO Try.prog l t h (K .normal)) := ⟨Ok.dw hmix⟩
end Go.Proofs.Ytnjgoggnhdpnoaa

set_option maxRecDepth 100000
set_option maxHeartbeats 8000000
set_option linter.all false
namespace Go.Proofs.Ytnjgoggnhdpnoaa
open Go Go.Ev
theorem isWrite_ok {h : H} {k v : List UInt8} {d : Bool} (hf : B.val h.floor ≤ B.val h.next) : FnOk Try.prog 41 [.a [sv k, .b d, sv v]] h fun y h' => y = .b (isW k d v) ∧ Stay nowhere h h' := by
  refine fn_go c41 (by intro hb; cases hb) (by simp) (by simp) fun Q hQ => ?_
  simp only [slotsF, Nat.reduceAdd]
  repeat' (first
    | refine St.h ?_
    | simp (disch := first | omega | (simp only [lnv]; omega)) only [wlk, ↓get_put', ↓reduceIte, seval]
    | (with_reducible (first | apply cd_split | apply gd_split)) <;> (intro hc; (try simp only [hcn] at hc); (try simp only [hc]); (try simp only [hcl] at hc); try omega))
  refine AL.own (by simp) hf fun h1 s1 n1 o1 => ?_
  repeat' (first
    | refine St.h ?_
    | simp (disch := first | omega | (simp only [lnv]; omega)) only [wlk, ↓get_put', ↓reduceIte, seval, o1.row.l1]
    | (with_reducible (first | apply cd_split | apply gd_split)) <;> (intro hc; (try simp only [hcn] at hc); (try simp only [hc]); (try simp only [hcl] at hc); try omega))
  all_goals (subst hQ; refine ⟨?_, s1⟩; congr 1; symm; first | exact isW_lo (by assumption) | exact isW_hi (by assumption) | exact isW_t (by assumption) (by assumption) (by assumption) | exact isW_f (by assumption) (by assumption) (by assumption))
theorem is_ok {h : H} {e : Ent} (hf : B.val h.floor ≤ B.val h.next) : FnOk Try.prog 37 [.a [sv e.key, .i .i64 e.seq, .b e.del, sv e.val]] h fun y h' => y = .b (isE e) ∧ Stay nowhere h h' := by
  refine fn_go c37 (by intro hb; cases hb) (by simp) (by simp) fun Q hQ => ?_
  simp only [slotsF, Nat.reduceAdd]
  repeat' (first
    | refine St.h ?_
    | simp (disch := first | omega | (simp only [lnv]; omega)) only [wlk, ↓get_put', ↓reduceIte, seval]
    | (with_reducible (first | apply cd_split | apply gd_split)) <;> (intro hc; (try simp only [hcn] at hc); (try simp only [hc]); (try simp only [hcl] at hc); try omega))
  refine AL.own (by simp) hf fun h1 s1 n1 o1 => ?_
  repeat' (first
    | refine St.h ?_
    | simp (disch := first | omega | (simp only [lnv]; omega)) only [wlk, ↓get_put', ↓reduceIte, seval, o1.row.l1]
    | (with_reducible (first | apply cd_split | apply gd_split)) <;> (intro hc; (try simp only [hcn] at hc); (try simp only [hc]); (try simp only [hcl] at hc); try omega))
  · refine CL.stay (isWrite_ok (s1.fl hf)) fun h2 s2 => ?_
    repeat' (first
      | refine St.h ?_
      | simp (disch := first | omega | (simp only [lnv]; omega)) only [wlk, ↓get_put', ↓reduceIte, seval, o1.row.l1]
      | (with_reducible (first | apply cd_split | apply gd_split)) <;> (intro hc; (try simp only [hcn] at hc); (try simp only [hc]); (try simp only [hcl] at hc); try omega))
    subst hQ
    exact ⟨by rw [isE_in (by assumption) (by assumption)], s1.trans s2⟩
  · subst hQ
    exact ⟨by rw [isE_hi (by assumption)], s1⟩
  · subst hQ
    exact ⟨by rw [isE_lo (by assumption)], s1⟩
theorem less_ok {h : H} {a b : Ent} (hf : B.val h.floor ≤ B.val h.next) : FnOk Try.prog 33 [.a [sv a.key, .i .i64 a.seq, .b a.del, sv a.val], .a [sv b.key, .i .i64 b.seq, .b b.del, sv b.val]] h fun y h' => y = .b (lessE a b) ∧ Stay nowhere h h' := by
  refine fn_go c33 (by intro hb; cases hb) (by simp) (by simp) fun Q hQ => ?_
  simp only [slotsF, Nat.reduceAdd]
  repeat' (first
    | refine St.h ?_
    | simp (disch := first | omega | (simp only [lnv]; omega)) only [wlk, ↓get_put', ↓reduceIte, seval]
    | (with_reducible (first | apply cd_split | apply gd_split)) <;> (intro hc; (try simp only [hcn] at hc); (try simp only [hc]); (try simp only [hcl] at hc); try omega))
  refine AL.own (by simp) hf fun h1 s1 n1 o1 => ?_
  repeat' (first
    | refine St.h ?_
    | simp (disch := first | omega | (simp only [lnv]; omega)) only [wlk, ↓get_put', ↓reduceIte, seval]
    | (with_reducible (first | apply cd_split | apply gd_split)) <;> (intro hc; (try simp only [hcn] at hc); (try simp only [hc]); (try simp only [hcl] at hc); try omega))
  refine AL.own (by simp) (s1.fl hf) fun h2 s2 n2 o2 => ?_
  have o1' := o1.stay s2 fun h => h
  by_cases hk : a.key = b.key
  · repeat' (first
      | refine St.h ?_
      | simp (disch := first | omega | (simp only [lnv]; omega)) only [wlk, ↓get_put', ↓reduceIte, seval, o1'.row.l1, o2.row.l1, hk]
      | (with_reducible (first | apply cd_split | apply gd_split)) <;> (intro hc; (try simp only [hcn] at hc); (try simp only [hc]); (try simp only [hcl] at hc); try omega))
    subst hQ
    exact ⟨by rw [lessE_eq hk], s1.trans s2⟩
  · repeat' (first
      | refine St.h ?_
      | simp (disch := first | omega | (simp only [lnv]; omega)) only [wlk, ↓get_put', ↓reduceIte, seval, o1'.row.l1, o2.row.l1, hk]
      | (with_reducible (first | apply cd_split | apply gd_split)) <;> (intro hc; (try simp only [hcn] at hc); (try simp only [hc]); (try simp only [hcl] at hc); try omega))
    subst hQ
    exact ⟨by rw [lessE_ne hk], s1.trans s2⟩
theorem sorted_ok {h : H} {v : V} {L : List Ent} (hL : Es h v L) (hl : L.length ≤ 9223372036854775807) (hf : B.val h.floor ≤ B.val h.next) : FnOk Try.prog 21 [v] h fun y h' => y = .b (sortedE L) ∧ Stay nowhere h h' := by
  refine fn_go c21 (by intro hb; cases hb) (by simp) (by simp) fun Q hQ => ?_
  simp only [slotsF, Nat.reduceAdd]
  repeat' (first
    | refine St.h ?_
    | simp (disch := first | omega | (simp only [lnv]; omega)) only [wlk, ↓get_put', ↓reduceIte, seval]
    | (with_reducible (first | apply cd_split | apply gd_split)) <;> (intro hc; (try simp only [hcn] at hc); (try simp only [hc]); (try simp only [hcl] at hc); try omega))
  refine Ok.lp (fun m t g => ∃ j : Nat, m = L.length - j ∧ Stay nowhere h g ∧ srtU L j = true ∧ j ≤ L.length - 1 ∧ get 0 t = v ∧ get 3 t = .i .i64 ((j : Int) + 1)) L.length ?_ ?_
  · simp (disch := first | omega | (simp only [lnv]; omega)) only [wlk, ↓get_put', ↓reduceIte, seval]
    exact ⟨0, by omega, Stay.refl _ _, rfl, by omega, trivial, rfl⟩
  rintro I hI m t g ⟨j, rfl, st, hs, hj, f0, f3⟩
  have hL' := hL.grow st
  have ej : (j : Int) + 1 - 1 = (j : Int) := by omega
  have ek : ((j : Int) + 1).toNat = j + 1 := by omega
  repeat' (first
    | refine St.h ?_
    | simp (disch := first | omega | (simp only [lnv]; omega)) only [wlk, ↓get_put', ↓reduceIte, seval, f0, f3, hL.ln, hL.ix, hL'.la, ej, ek, Int.toNat_natCast]
    | (with_reducible (first | apply cd_split | apply gd_split)) <;> (intro hc; (try simp only [hcn] at hc); (try simp only [hc]); (try simp only [hcl] at hc); try omega))
  · refine CL.stay (less_ok (st.fl hf)) fun h1 s1 => ?_
    cases hb : lessE (L.getD j default) (L.getD (j + 1) default) with
    | false =>
      repeat' (first
        | refine St.h ?_
        | simp (disch := first | omega | (simp only [lnv]; omega)) only [wlk, ↓get_put', ↓reduceIte, seval, f0, f3]
        | (with_reducible (first | apply cd_split | apply gd_split)) <;> (intro hc; (try simp only [hcn] at hc); (try simp only [hc]); (try simp only [hcl] at hc); try omega))
      subst hQ
      exact ⟨by rw [sorted_no (by omega) hb], st.trans s1⟩
    | true =>
      repeat' (first
        | refine St.h ?_
        | simp (disch := first | omega | (simp only [lnv]; omega)) only [wlk, ↓get_put', ↓reduceIte, seval, f0, f3]
        | (with_reducible (first | apply cd_split | apply gd_split)) <;> (intro hc; (try simp only [hcn] at hc); (try simp only [hc]); (try simp only [hcl] at hc); try omega))
      refine lp_next hI (L.length - (j + 1)) (by omega) ⟨j + 1, rfl, st.trans s1, by rw [srtU_succ, hs, hb]; rfl, by omega, ?_, ?_⟩
      · simp (disch := first | omega | (simp only [lnv]; omega)) only [wlk, ↓get_put', ↓reduceIte, seval, f0]
      · simp (disch := first | omega | (simp only [lnv]; omega)) only [wlk, ↓get_put', ↓reduceIte, seval]; rfl
  · subst hQ
    obtain rfl : j = L.length - 1 := by omega
    exact ⟨by rw [show sortedE L = true from hs], st⟩
end Go.Proofs.Ytnjgoggnhdpnoaa

set_option maxRecDepth 100000
set_option maxHeartbeats 8000000
set_option linter.all false
namespace Go.Proofs.Ytnjgoggnhdpnoaa
open Go Go.Ev
theorem own_lt' {h : H} {id : B} {xs : List V} (o : Ev.Own h id xs) : B.val id < B.val h.next := by obtain ⟨_, _, _, _, _, _, h6, _⟩ := o; exact h6
theorem drop_ent {L : List Ent} {i : Nat} (hi : i < L.length) : L.drop i = L.getD i default :: L.drop (i + 1) := by
  rw [List.drop_eq_getElem_cons hi]; simp [List.getD, hi]
theorem take_ent {L : List Ent} {i : Nat} (hi : i < L.length) : L.take (i + 1) = L.take i ++ [L.getD i default] := by
  rw [List.take_succ]; simp [List.getD, hi]
theorem fp_sw {n : Nat} {x : V} (w : SwN n x) {P : Program} {off : Nat} {ps : List Pt} {t : F} {z : List V} {e : Option (Nat × Nat)} {h : H} {N : Nx} : FP P off 1 x ps t z e h N = if off + 1 ≤ z.length then FL P ps t (z.take off ++ (x :: z.drop (off + 1))) e h N else FPJ P off 1 x ps t z e h N := by
  rcases w with rfl | ⟨_, _, _, _, _, _, rfl, _⟩
  · exact fp_l0
  · exact fp_l
theorem one_sw {n : Nat} {x : V} (w : SwN n x) : allOne [x] = true := by
  rcases w with rfl | ⟨_, _, _, _, _, _, rfl, _⟩ <;> rfl
/-- a block, as it lies -/
structure Bk where
  v : V
  l : List Ent
instance : Inhabited Bk := ⟨⟨.l0, []⟩⟩
def bkC (b : Bk) : List V := [b.v]
theorem bkC_len (b : Bk) : (bkC b).length = 1 := rfl
/-- blocks, as they lie -/
structure Bls (h : H) (v : V) (bs : List (List Ent)) (ks : List Bk) : Prop where
  ss : Ss 1 bkC h v ks
  eq : ks.map (·.l) = bs
  es : ∀ k ∈ ks, Es h k.v k.l
section
variable {P : Program} {h h' g' : H} {N : Nx} {v : V} {bs : List (List Ent)} {ks : List Bk} {i : Nat}
theorem Bls.len (a : Bls h v bs ks) : ks.length = bs.length := by rw [← a.eq, List.length_map]
theorem Bls.ln (a : Bls h v bs ks) : H1 P gLen v g' N = N.go P (.i .i64 (bs.length : Int)) g' := by rw [← a.len]; exact a.ss.ln
theorem Bls.ix (a : Bls h v bs ks) (hi : i < bs.length) : IX P 1 v i g' N = N.go P (.p (lid v) (lg v) (loff v + i) (lfin v)) g' := by
  have := a.ss.ix (P := P) (g' := g') (N := N) (i := i) (by rw [a.len]; exact hi)
  rwa [Nat.mul_one] at this
theorem Bls.ld (a : Bls h v bs ks) (hi : i < bs.length) : L1 P (lid v) (lg v) (loff v + i) (lfin v) h N = N.go P (ks.getD i default).v h := by
  have := a.ss.ld (P := P) (N := N) (i := i) (d := 0) bkC_len (by rw [a.len]; exact hi) (by omega)
  rwa [Nat.mul_one] at this
theorem Bls.grow (a : Bls h v bs ks) (s : Stay nowhere h h') : Bls h' v bs ks := ⟨a.ss.grow s, a.eq, fun k hk => (a.es k hk).grow s⟩
theorem Bls.at (a : Bls h v bs ks) (hi : i < bs.length) : Es h (ks.getD i default).v (bs.getD i []) := by
  have hk : i < ks.length := by rw [a.len]; exact hi
  have h1 := a.es (ks.getD i default) (by rw [List.getD_eq_getElem?_getD, List.getElem?_eq_getElem hk]; simp)
  have h2 : bs.getD i [] = (ks.getD i default).l := by rw [← a.eq]; simp [List.getD, List.getElem?_eq_getElem hk]
  rw [h2]; exact h1
end
end Go.Proofs.Ytnjgoggnhdpnoaa

set_option maxRecDepth 100000
set_option maxHeartbeats 8000000
set_option linter.all false
namespace Go.Proofs.Ytnjgoggnhdpnoaa
open Go Go.Ev
theorem swn_bufE {h : H} {el n : Nat} {v : V} {xs : List V} (b : Buf h el n v xs) : SwN n v := by
  rcases b with ⟨rfl, _⟩ | ⟨id, g, m, blk, rfl, h1, h2, _⟩
  · exact .inl rfl
  · exact .inr ⟨_, _, _, _, _, _, rfl, by show xs.length = 0 + m * n; omega⟩
end Go.Proofs.Ytnjgoggnhdpnoaa

set_option maxRecDepth 100000
set_option maxHeartbeats 8000000
set_option linter.all false
namespace Go.Proofs.Ytnjgoggnhdpnoaa
open Go Go.Ev
theorem flat_len_at : ∀ {R : List (List Ent)} {i : Nat}, i < R.length → (R.take i).flatten.length + (R.getD i []).length ≤ R.flatten.length
  | [], i, h => by simp at h
  | a :: R, 0, h => by simp
  | a :: R, i + 1, h => by
    have := flat_len_at (R := R) (i := i) (by simpa using h)
    rw [List.take_succ_cons, List.flatten_cons, List.flatten_cons, List.length_append, List.length_append]
    simp only [List.getD_cons_succ]; omega
theorem filter_takeE {L : List Ent} {q : Ent → Bool} {i : Nat} (hi : i < L.length) : (L.take (i + 1)).filter q = (L.take i).filter q ++ (if q (L.getD i default) then [L.getD i default] else []) := by
  rw [take_ent hi, List.filter_append, List.filter_cons, List.filter_nil]
end Go.Proofs.Ytnjgoggnhdpnoaa

set_option maxRecDepth 100000
set_option maxHeartbeats 8000000
set_option linter.all false
namespace Go.Proofs.Ytnjgoggnhdpnoaa
open Go Go.Ev
theorem kl_lnM {P : Program} {h h0 : H} {N : Nx} {kd : IntKind} {v : V} {xs : List Int} (a : Kl h0 kd v xs) : H1 P gLen v h N = N.go P (.i .i64 (xs.length : Int)) h := by rw [Lst.ln a, List.length_map]
theorem kl_ixM {P : Program} {h h0 : H} {N : Nx} {kd : IntKind} {v : V} {xs : List Int} {i : Nat} (a : Kl h0 kd v xs) (hi : i < xs.length) : IX P 1 v i h N = N.go P (.p (lid v) (lg v) (loff v + i) (lfin v)) h := Lst.ix a (by simpa using hi)
theorem kl_ldM {P : Program} {h : H} {N : Nx} {kd : IntKind} {v : V} {xs : List Int} {i : Nat} (a : Kl h kd v xs) (hi : i < xs.length) : L1 P (lid v) (lg v) (loff v + i) (lfin v) h N = N.go P (.i kd (xs.getD i 0)) h := hv_of fun k => load_lst a (by simp [hi]) k
/-- the number of the next newer one of that key -/
def nwE (L : List Ent) (i : Nat) : Int := if 0 < i ∧ (L.getD (i - 1) default).key = (L.getD i default).key then (L.getD (i - 1) default).seq else 1000001
theorem want_nw {L : List Ent} {held : List Int} {i : Nat} (ha : L.all isE = true) (hs : sortedE L = true) (hi : i < L.length) :
    wantP L held (L.getD i default) = (decide (1000000 < nwE L i) || held.any fun n => decide ((L.getD i default).seq ≤ n) && decide (n < nwE L i)) := by
  have h1 := (isE_iff.1 (List.all_eq_true.1 ha _ (getD_memE hi))).1
  unfold wantP nwE
  rw [List.any_cons]
  by_cases hp : 0 < i ∧ (L.getD (i - 1) default).key = (L.getD i default).key
  · rw [if_pos hp]
    have h2 := (isE_iff.1 (List.all_eq_true.1 ha _ (getD_memE (i := i - 1) (by omega)))).1
    have hn : ∀ n : Int, newer L (L.getD i default) n = decide ((L.getD (i - 1) default).seq ≤ n) := fun n => by
      by_cases hc : (L.getD (i - 1) default).seq ≤ n
      · rw [decide_eq_true hc]; exact (newer_at hs hi).2 ⟨hp.1, hp.2, hc⟩
      · rw [decide_eq_false hc]
        cases hh : newer L (L.getD i default) n with
        | false => rfl
        | true => exact absurd ((newer_at hs hi).1 hh).2.2 hc
    rw [hn, decide_eq_true (p := (L.getD (i - 1) default).seq ≤ 1000000) (by omega), Bool.not_true, Bool.and_false, Bool.false_or, decide_eq_false (p := 1000000 < (L.getD (i - 1) default).seq) (by omega), Bool.false_or]
    congr 1
    funext n
    rw [hn]
    congr 1
    by_cases hc : (L.getD (i - 1) default).seq ≤ n
    · rw [decide_eq_true hc, decide_eq_false (p := n < (L.getD (i - 1) default).seq) (by omega)]; rfl
    · rw [decide_eq_false hc, decide_eq_true (p := n < (L.getD (i - 1) default).seq) (by omega)]; rfl
  · rw [if_neg hp]
    have hn : newer L (L.getD i default) 1000000 = false := by
      cases hh : newer L (L.getD i default) 1000000 with
      | false => rfl
      | true => have := (newer_at hs hi).1 hh; exact absurd ⟨this.1, this.2.1⟩ hp
    rw [hn, decide_eq_true (p := (L.getD i default).seq ≤ 1000000) (by omega), decide_eq_true (p := (1000000 : Int) < 1000001) (by omega)]; rfl
theorem drop_entM {K : List Ent} {i : Nat} (hi : i < K.length) : K.drop i = K.getD i default :: K.drop (i + 1) := drop_ent hi
theorem allOne_entM : ∀ L : List Ent, allOne (L.flatMap entC) = true
  | [] => rfl
  | a :: L => allOne_entM L
end Go.Proofs.Ytnjgoggnhdpnoaa

set_option linter.all false
namespace Go.Proofs.Ytnjgoggnhdpnoaa
open Go Go.Ev
theorem addE_mem {A : List Ent} {x a : Ent} : a ∈ addE A x ↔ a ∈ A ∨ (a = x ∧ hasE A x = false) := by
  cases h : hasE A x with
  | true => rw [addE_has h]; simp
  | false => rw [addE_new h, insE_mem]; simp [or_comm]
theorem hasE_add {A : List Ent} {x y : Ent} (h : ¬ (x.key = y.key ∧ x.seq = y.seq)) : hasE (addE A x) y = hasE A y := by
  rw [Bool.eq_iff_iff, hasE_mem, hasE_mem]
  constructor
  · rintro ⟨a, h1, h2⟩
    rcases addE_mem.1 h1 with e | ⟨rfl, _⟩
    · exact ⟨a, e, h2⟩
    · exact absurd h2 h
  · rintro ⟨a, h1, h2⟩
    exact ⟨a, addE_mem.2 (.inl h1), h2⟩
theorem addE_comm {A : List Ent} {x y : Ent} (hs : sortedE A = true) (h : ¬ (x.key = y.key ∧ x.seq = y.seq)) : addE (addE A x) y = addE (addE A y) x := by
  refine sorted_ext (addE_sorted (addE_sorted hs)) (addE_sorted (addE_sorted hs)) fun a => ?_
  rw [addE_mem, addE_mem, addE_mem, addE_mem, hasE_add h, hasE_add fun e => h ⟨e.1.symm, e.2.symm⟩]
  constructor
  · rintro ((h1 | h1) | h1)
    · exact .inl (.inl h1)
    · exact .inr h1
    · exact .inl (.inr h1)
  · rintro ((h1 | h1) | h1)
    · exact .inl (.inl h1)
    · exact .inr h1
    · exact .inl (.inr h1)
theorem hasE_cons {S : List Ent} {s y : Ent} (h : hasE (s :: S) y = false) : ¬ (s.key = y.key ∧ s.seq = y.seq) ∧ hasE S y = false := by
  unfold hasE at h ⊢
  rw [List.any_cons, Bool.or_eq_false_iff] at h
  exact ⟨of_decide_eq_false h.1, h.2⟩
theorem addsE_comm {S : List Ent} : ∀ {A : List Ent} {y : Ent}, sortedE A = true → hasE S y = false → addsE (addE A y) S = addE (addsE A S) y := by
  induction S with
  | nil => intro A y _ _; rfl
  | cons s S ih =>
    intro A y hs h
    obtain ⟨h1, h2⟩ := hasE_cons h
    show addsE (addE (addE A y) s) S = addE (addsE (addE A s) S) y
    rw [← addE_comm hs h1, ih (addE_sorted hs) h2]
theorem addsE_ins {S : List Ent} : ∀ {A : List Ent} {y : Ent}, sortedE A = true → hasE S y = false → addsE A (insE y S) = addE (addsE A S) y := by
  induction S with
  | nil => intro A y _ _; rfl
  | cons s S ih =>
    intro A y hs h
    unfold insE
    split
    · exact addsE_comm hs h
    · exact ih (A := addE A s) (addE_sorted hs) (hasE_cons h).2
/-- put together by parts -/
theorem addsE_adds {A M : List Ent} (hs : sortedE A = true) : addsE A (addsE [] M) = addsE A M := by
  have go : ∀ k, k ≤ M.length → addsE A (addsE [] (M.take k)) = addsE A (M.take k) := by
    intro k
    induction k with
    | zero => intro _; rfl
    | succ k ih =>
      intro hk
      have ih := ih (by omega)
      rw [take_ent (by omega), addsE_snoc, addsE_snoc]
      generalize M.take k = T at *
      generalize M.getD k default = y at *
      cases hh : hasE (addsE [] T) y with
      | true =>
        rw [addE_has hh, ih]
        obtain ⟨a, a1, a2⟩ := hasE_mem.1 hh
        have ha : a ∈ T := (addsE_from a1).resolve_left (by simp)
        obtain ⟨b, b1, b2, b3⟩ := addsE_has (L := A) ha
        rw [addE_has (hasE_mem.2 ⟨b, b1, b2.trans a2.1, b3.trans a2.2⟩)]
      | false => rw [addE_new hh, addsE_ins hs hh, ih]
  have := go M.length (Nat.le_refl _)
  rwa [List.take_length] at this
theorem rows_halves {R : List (List Ent)} (k : Nat) : addsE (addsE [] (R.take k).flatten) (addsE [] (R.drop k).flatten) = addsE [] R.flatten := by
  rw [addsE_adds (addsE_sorted (L := []) rfl), ← addsE_app, ← List.flatten_append, List.take_append_drop]
theorem rows_one {r : List Ent} (h : sortedE r = true) : addsE [] [r].flatten = r := by
  rw [List.flatten_cons, List.flatten_nil, List.append_nil]
  exact addsE_row h (fun _ h => h) (fun _ h => h)
/-- what is less than all that is left goes between -/
theorem jn_new {J C : List Ent} {e : Ent} (hJ : ∀ a ∈ J, lessE a e = true) (hC : sortedE C = true) (h : C = [] ∨ lessE e (C.getD 0 default) = true) : addE (J ++ C) e = J ++ e :: C := by
  have hle : ∀ c ∈ C, lessE e c = true := fun c hc => by
    obtain ⟨i, hi, rfl⟩ := mem_getD hc
    rcases h with h | h
    · rw [h] at hc; cases hc
    · by_cases e0 : i = 0
      · rw [e0]; exact h
      · exact lessE_trans h (pw_at hC (by omega) hi)
  have hno : hasE (J ++ C) e = false := by
    cases hh : hasE (J ++ C) e with
    | false => rfl
    | true =>
      obtain ⟨a, a1, a2, a3⟩ := hasE_mem.1 hh
      rcases List.mem_append.1 a1 with m | m
      · have := less_same (hJ a m) a2; omega
      · have := less_same (hle a m) a2.symm; omega
  rw [addE_new hno, insE_none (fun a ha => lessE_asym (hJ a ha))]
  cases C with
  | nil => rfl
  | cons c C =>
    have := hle c (by simp)
    show J ++ (if lessE e c then _ else _) = _
    rw [this]; rfl
theorem jn_same {J C : List Ent} {c e : Ent} (h1 : lessE e c = false) (h2 : lessE c e = false) : addE (J ++ c :: C) e = J ++ c :: C := by
  refine addE_has (hasE_mem.2 ⟨c, by simp, ?_⟩)
  refine Classical.byContradiction fun h => ?_
  rcases lessE_tot h with h | h
  · rw [h2] at h; cases h
  · rw [h1] at h; cases h
/-- c is not behind e, e is ahead of f: so is c -/
theorem le_less {c e f : Ent} (h : lessE e c = false) (h2 : lessE e f = true) : lessE c f = true := by
  by_cases hid : c.key = e.key ∧ c.seq = e.seq
  · by_cases hk : e.key = f.key
    · exact less_of (hid.1.trans hk) (by have := less_same h2 hk; omega)
    · rw [lessE_ne hk] at h2
      rw [lessE_ne (by rw [hid.1]; exact hk), hid.1]; exact h2
  · rcases lessE_tot hid with h3 | h3
    · exact lessE_trans h3 h2
    · rw [h] at h3; cases h3
structure Grp (L : List Ent) (R : List (List Ent)) : Prop where
  flat : R.flatten = L
  same : ∀ g ∈ R, ∀ a ∈ g, ∀ b ∈ g, a.key = b.key
  pw : R.Pairwise fun g k => ∀ a ∈ g, ∀ b ∈ k, a.key ≠ b.key
theorem Grp.newer {L : List Ent} {R : List (List Ent)} (G : Grp L R) {g : List Ent} (hg : g ∈ R) {e : Ent} (he : e ∈ g) (s : Int) : newer L e s = newer g e s := by
  rw [Bool.eq_iff_iff, newer_iff, newer_iff]
  constructor
  · rintro ⟨a, h1, h2, h3⟩
    rw [← G.flat, List.mem_flatten] at h1
    obtain ⟨k, hk, hak⟩ := h1
    by_cases e1 : a ∈ g
    · exact ⟨a, e1, h2, h3⟩
    · exfalso
      have hpw := G.pw
      rw [List.pairwise_iff_getElem] at hpw
      obtain ⟨i, hi, rfl⟩ := List.getElem_of_mem hg
      obtain ⟨j, hj, rfl⟩ := List.getElem_of_mem hk
      rcases Nat.lt_trichotomy i j with h | h | h
      · exact hpw i j hi hj h e he a hak h2.symm
      · subst h; exact e1 hak
      · exact hpw j i hj hi h a hak e he h2
  · rintro ⟨a, h1, h2⟩
    exact ⟨a, by rw [← G.flat, List.mem_flatten]; exact ⟨g, hg, h1⟩, h2⟩
theorem Grp.sub {L : List Ent} {R : List (List Ent)} (G : Grp L R) {g : List Ent} (hg : g ∈ R) : g.Sublist L := by rw [← G.flat]; exact List.sublist_flatten_of_mem hg
theorem flatMap_filter {R : List (List Ent)} {q : Ent → Bool} {p : List Ent → Ent → Bool} (h : ∀ g ∈ R, ∀ e ∈ g, q e = p g e) : R.flatten.filter q = R.flatMap fun g => g.filter (p g) := by
  induction R with
  | nil => rfl
  | cons g R ih =>
    rw [List.flatten_cons, List.filter_append, List.flatMap_cons, ih fun k hk => h k (List.mem_cons_of_mem _ hk)]
    congr 1
    exact List.filter_congr fun e he => h g (by simp) e he
theorem Grp.want {L : List Ent} {R : List (List Ent)} (G : Grp L R) (S : List Int) : L.filter (wantP L S) = R.flatMap fun g => g.filter (wantP g S) := by
  have := flatMap_filter (R := R) (q := wantP L S) (p := fun g => wantP g S) fun g hg e he => by
    unfold wantP; congr 1; funext n; rw [G.newer hg he]
  rw [G.flat] at this; exact this
/-- without the deleted ones at the end -/
def stripE : List Ent → List Ent
  | [] => []
  | x :: K => if x.del = true ∧ stripE K = [] then [] else x :: stripE K
theorem stripE_sub : ∀ K : List Ent, (stripE K).Sublist K
  | [] => List.Sublist.slnil
  | x :: K => by
    show (if _ then _ else _ : List Ent).Sublist _
    split
    · exact List.nil_sublist _
    · exact (stripE_sub K).cons_cons x
theorem stripE_del {x : Ent} (hx : x.del = true) : ∀ K : List Ent, stripE (K ++ [x]) = stripE K
  | [] => by show (if _ then _ else _ : List Ent) = _; rw [if_pos ⟨hx, rfl⟩]; rfl
  | y :: K => by show (if y.del = true ∧ stripE (K ++ [x]) = [] then _ else y :: stripE (K ++ [x])) = _; rw [stripE_del hx K]; rfl
theorem stripE_put {x : Ent} (hx : x.del = false) : ∀ K : List Ent, stripE (K ++ [x]) = K ++ [x]
  | [] => by show (if x.del = true ∧ _ then _ else _ : List Ent) = _; rw [if_neg (by rw [hx]; rintro ⟨h, _⟩; cases h)]; rfl
  | y :: K => by show (if y.del = true ∧ stripE (K ++ [x]) = [] then _ else y :: stripE (K ++ [x])) = _; rw [stripE_put hx K, if_neg (by rintro ⟨_, h⟩; simp at h)]; rfl
theorem bot_app {C : List Ent} : ∀ {K : List Ent}, (∀ a ∈ K, ∀ b ∈ K, a.key = b.key) → (∀ a ∈ K, ∀ b ∈ C, a.key ≠ b.key) → botE (K ++ C) = stripE K ++ botE C
  | [], _, _ => rfl
  | x :: K, h1, h2 => by
    have ih := bot_app (C := C) (K := K) (fun a ha b hb => h1 a (List.mem_cons_of_mem _ ha) b (List.mem_cons_of_mem _ hb)) fun a ha b hb => h2 a (List.mem_cons_of_mem _ ha) b hb
    show (if x.del = true ∧ (botE (K ++ C) = [] ∨ ((botE (K ++ C)).getD 0 default).key ≠ x.key) then botE (K ++ C) else x :: botE (K ++ C)) = (if x.del = true ∧ stripE K = [] then [] else x :: stripE K) ++ botE C
    rw [ih]
    cases hk : stripE K with
    | nil =>
      rw [List.nil_append]
      have hc : botE C = [] ∨ ((botE C).getD 0 default).key ≠ x.key := by
        cases hC : botE C with
        | nil => exact .inl rfl
        | cons c B =>
          refine .inr fun e => h2 x (by simp) c ((botE_sub C).subset (by rw [hC]; simp)) ?_
          exact e.symm
      by_cases hd : x.del = true
      · rw [if_pos ⟨hd, hc⟩, if_pos ⟨hd, rfl⟩]; rfl
      · rw [if_neg (fun h => hd h.1), if_neg (fun h => hd h.1)]; rfl
    | cons c B =>
      have hc : c ∈ K := (stripE_sub K).subset (by rw [hk]; simp)
      have hcx : c.key = x.key := h1 c (List.mem_cons_of_mem _ hc) x (by simp)
      rw [if_neg, if_neg (by rintro ⟨_, h⟩; cases h)]
      · rfl
      · rintro ⟨_, h | h⟩
        · cases h
        · exact h hcx
theorem bot_groups {w : List Ent → Ent → Bool} : ∀ {R : List (List Ent)}, (∀ g ∈ R, ∀ a ∈ g, ∀ b ∈ g, a.key = b.key) → R.Pairwise (fun g k => ∀ a ∈ g, ∀ b ∈ k, a.key ≠ b.key) → botE (R.flatMap fun g => g.filter (w g)) = R.flatMap fun g => stripE (g.filter (w g))
  | [], _, _ => rfl
  | g :: R, h1, h2 => by
    rw [List.pairwise_cons] at h2
    rw [List.flatMap_cons, List.flatMap_cons, bot_app, bot_groups (fun k hk => h1 k (List.mem_cons_of_mem _ hk)) h2.2]
    · exact fun a ha b hb => h1 g (by simp) a (List.mem_filter.1 ha).1 b (List.mem_filter.1 hb).1
    · intro a ha b hb
      rw [List.mem_flatMap] at hb
      obtain ⟨k, hk, hb⟩ := hb
      exact h2.1 k hk a (List.mem_filter.1 ha).1 b (List.mem_filter.1 hb).1
/-- what is kept of one row -/
def keepG (S : List Int) (b : Bool) (g : List Ent) : List Ent := if b then stripE (g.filter (wantP g S)) else g.filter (wantP g S)
theorem Grp.pack {L : List Ent} {R : List (List Ent)} (G : Grp L R) {S : List Int} {b : Bool} (ha : L.all isE = true) (hs : sortedE L = true) : packE L S b = R.flatMap (keepG S b) := by
  rw [packE_ok ha hs, G.want]
  cases b with
  | true => rw [if_pos rfl, bot_groups G.same G.pw]; rfl
  | false => rfl
theorem keepG_sub {S : List Int} {b : Bool} {g : List Ent} : (keepG S b g).Sublist g := by
  unfold keepG
  split
  · exact (stripE_sub _).trans List.filter_sublist
  · exact List.filter_sublist
def SrtI (S : List Int) : Prop := ∀ i j, i ≤ j → j < S.length → S.getD i 0 ≤ S.getD j 0
/-- the least look that is not below: it is below the newer one -/
theorem want_look {g : List Ent} {S T : List Int} {i k : Nat} (ha : g.all isE = true) (hs : sortedE g = true) (hk : ∀ a ∈ g, ∀ b ∈ g, a.key = b.key) (hi : i < g.length) (h0 : 0 < i) (hT : SrtI T) (hm : ∀ n, n ∈ T ↔ n ∈ S ∨ n = 1000000)
    (k1 : k < T.length) (k2 : 0 < k → T.getD (k - 1) 0 < (g.getD i default).seq) (k3 : (g.getD i default).seq ≤ T.getD k 0) :
    wantP g S (g.getD i default) = decide (T.getD k 0 < (g.getD (i - 1) default).seq) := by
  have hkk := hk _ (getD_memE (i := i - 1) (by omega)) _ (getD_memE hi)
  have hq := (isE_iff.1 (List.all_eq_true.1 ha _ (getD_memE (i := i - 1) (by omega)))).1
  have memT : ∀ j, j < T.length → T.getD j 0 ∈ T := fun j hj => by rw [List.getD_eq_getElem?_getD, List.getElem?_eq_getElem hj]; simp
  rw [want_nw ha hs hi]
  have hn : nwE g i = (g.getD (i - 1) default).seq := if_pos ⟨h0, hkk⟩
  rw [hn, decide_eq_false (p := 1000000 < (g.getD (i - 1) default).seq) (by omega), Bool.false_or, Bool.eq_iff_iff, List.any_eq_true, decide_eq_true_eq]
  constructor
  · rintro ⟨n, n1, n2⟩
    rw [Bool.and_eq_true, decide_eq_true_eq, decide_eq_true_eq] at n2
    obtain ⟨j, hj, e⟩ := List.getElem_of_mem ((hm n).2 (.inl n1))
    have e : T.getD j 0 = n := by rw [List.getD_eq_getElem?_getD, List.getElem?_eq_getElem hj]; simpa using e
    have hjk : k ≤ j := by
      refine Classical.byContradiction fun hh => ?_
      have h1 := k2 (by omega)
      have h2 := hT j (k - 1) (by omega) (by omega)
      omega
    have := hT k j hjk hj
    omega
  · intro h
    rcases (hm _).1 (memT k k1) with h1 | h1
    · exact ⟨_, h1, by rw [Bool.and_eq_true, decide_eq_true_eq, decide_eq_true_eq]; exact ⟨k3, h⟩⟩
    · omega
theorem want_first {g : List Ent} {S : List Int} (ha : g.all isE = true) (hs : sortedE g = true) (hi : 0 < g.length) : wantP g S (g.getD 0 default) = true := by
  rw [want_nw ha hs hi]
  have hn : nwE g 0 = 1000001 := if_neg (by omega)
  rw [hn]; rfl
end Go.Proofs.Ytnjgoggnhdpnoaa

set_option linter.all false
namespace Go.Ev
open Go
/-- less of a block's cells -/
theorem Own.pre {h : H} {id : B} {xs ys : List V} (o : Own h id (xs ++ ys)) : Own h id xs := by
  obtain ⟨blk, h1, h2, h3, h4, h5, h6, h7⟩ := o
  refine ⟨blk, h1, h2, h3, h4, h5, h6, fun i y hy => h7 i y ?_⟩
  have hi := (List.getElem?_eq_some_iff.1 hy).1
  rw [List.getElem?_append_left hi]; exact hy
theorem Own.none {h : H} {id : B} {xs : List V} (o : Own h id xs) : Own h id [] := Own.pre (xs := []) (ys := xs) o
/-- cells stored behind those that are known -/
theorem store_end {h : H} {id : B} {xs vs : List V} {fin : Nat} (o : Own h id xs) (hj : xs.length + vs.length ≤ fin) (hfit : fin < 2 ^ 37) (h1 : allOne vs = true) : ∃ h', (∀ k, store h id 0 xs.length fin vs k = k h') ∧ Own h' id (xs ++ vs) ∧ Stay (fun i => i = id) h h' := by
  obtain ⟨blk, a1, a2, a3, a4, a5, a6, a7⟩ := o
  obtain ⟨next, floor, heap⟩ := h
  obtain ⟨cur, min, sz, cells, bel, fr⟩ := blk
  simp only at a2 a3 a4 a7
  subst a2; subst a3; subst a4
  obtain ⟨tr, t1, t2, t3⟩ := setList_fine vs xs.length cells (by omega)
  obtain ⟨hp, s1, s2, s3⟩ := setK_ok id (⟨0, 0, sz, tr, bel, 0⟩ : Blk) heap
  have e1 : B.geB floor id = true := by cases floor <;> first | rfl | (show Nat.ble _ _ = true; rw [Nat.ble_eq]; exact a5)
  have e2 : Nat.ble (Nat.add xs.length vs.length) fin = true := by rw [Nat.ble_eq]; exact hj
  have e4 : frOk 0 xs.length = true := rfl
  have e5 : Nat.beq 0 0 = true := rfl
  have e6 : Nat.ble 0 0 = true := rfl
  have a1' : heap.get id = some ⟨0, 0, sz, cells, bel, 0⟩ := a1
  refine ⟨⟨next, floor, hp⟩, fun k => ?_, ⟨_, s2, rfl, rfl, rfl, a5, a6, fun i z hz => ?_⟩, ⟨rfl, Nat.le_refl _, fun i _ hi => s3 i hi⟩⟩
  · simp only [store, hK_mk, a1', optK_some, blkK_mk, e5, e6, e1, e2, h1, e4, ifK_true]
    rw [t1, s1]
  · show tr.getN i = some z
    by_cases hi : i < xs.length
    · rw [List.getElem?_append_left hi] at hz
      rw [t3 i (by omega)]; exact a7 i z hz
    · rw [List.getElem?_append_right (by omega)] at hz
      have := t2 _ z hz
      rwa [show xs.length + (i - xs.length) = i by omega] at this
section
variable {P : Program} {h : H} {N : Nx} {id : B} {el size cnt len c : Nat} {x : V} {xs vs : List V}
/-- in place: there is room -/
theorem AP.made (o : Own h id xs) (hlen : xs.length = len * size) (hx : ∀ k : Nat → List V → Bool, newCells size x h k = k cnt vs) (hn : vs.length = cnt * size) (h1 : allOne vs = true) (hc : len + cnt ≤ c) (hfit : c * size < 2 ^ 37) (hcb : c < 18446744073709551616)
    (k : ∀ h', Own h' id (xs ++ vs) → Stay (fun i => i = id) h h' → N.go P (.l id 0 0 (len + cnt) (c * size) (some c)) h') : AP P el size (.l id 0 0 len (c * size) (some c)) x h N := by
  have hle : Nat.ble (Nat.add len cnt) c = true := by rw [Nat.ble_eq]; exact hc
  have hmul := Nat.mul_le_mul_right size hc
  rw [Nat.add_mul] at hmul
  cases cnt with
  | zero =>
    have hv : vs = [] := List.eq_nil_of_length_eq_zero (by rw [hn, Nat.zero_mul])
    subst hv
    refine hm_of (v := .l id 0 0 (len + 0) (c * size) (some c)) (h' := h) (fun q => ?_) (k h (by rw [List.append_nil]; exact o) ⟨rfl, Nat.le_refl _, fun _ _ _ => rfl⟩)
    rw [hx]
    show boolK (flagB c) _ (fun _ => boolK (Nat.ble (Nat.add len 0) c) (fun _ => appIn id 0 0 len (c * size) c size 0 [] h q) _) = _
    rw [flagB_of hcb, boolK_false, hle]; rfl
  | succ m =>
    obtain ⟨h', a1, a2, a3⟩ := store_end o (vs := vs) (fin := c * size) (by omega) hfit h1
    refine hm_of (v := .l id 0 0 (len + (m + 1)) (c * size) (some c)) (h' := h') (fun q => ?_) (k h' a2 a3)
    rw [hx]
    show boolK (flagB c) _ (fun _ => boolK (Nat.ble (Nat.add len (m + 1)) c) (fun _ => appIn id 0 0 len (c * size) c size (m + 1) vs h q) _) = _
    rw [flagB_of hcb, boolK_false, hle]
    show store h id 0 (Nat.add 0 (Nat.mul len size)) (c * size) vs (fun h => fN (Nat.add len (m + 1)) fun l' => q (.l id 0 0 l' (c * size) (some c)) h) = _
    rw [show Nat.add 0 (Nat.mul len size) = xs.length by rw [hlen]; show 0 + len * size = _; omega, a1, fN_eq]
    rfl
/-- append(S{}, s...): a new block, or the empty one -/
theorem AP.e1 {g off fin : Nat} (hx : ∀ k : Nat → List V → Bool, newCells size x h k = k cnt vs) (hf : B.val h.floor ≤ B.val h.next) (hn : vs.length = cnt * size) (hl : cnt ≤ 1048576) (hl2 : vs.length < 2 ^ 38)
    (k0 : cnt = 0 → N.go P (.l id g off 0 fin (some 0)) h)
    (k : ∀ h', 1 ≤ cnt → Stay nowhere h h' → B.val h'.next = B.val h.next + 1 → Buf h' el size (.l h.next 0 0 cnt vs.length none) vs → Top h' (.l h.next 0 0 cnt vs.length none) → N.go P (.l h.next 0 0 cnt vs.length none) h') : AP P el size (.l id g off 0 fin (some 0)) x h N := by
  cases cnt with
  | zero =>
    have hv : vs = [] := List.eq_nil_of_length_eq_zero (by rw [hn, Nat.zero_mul])
    subst hv
    exact hm_of (v := .l id g off 0 fin (some 0)) (h' := h) (fun q => by rw [hx]; rfl) (k0 rfl)
  | succ m =>
  obtain ⟨h', a1, a2, a3, blk, b1, b2, b3, b4, b5, b6, b7⟩ := alloc_new el vs h hl2
  have hble : Nat.ble (Nat.add 0 (m + 1)) 1048576 = true := by rw [Nat.ble_eq]; show 0 + (m + 1) ≤ _; omega
  have hno : Nat.ble (Nat.add 0 (m + 1)) 0 = false := by
    cases hx : Nat.ble (Nat.add 0 (m + 1)) 0 with
    | false => rfl
    | true => have := Nat.le_of_ble_eq_true hx; have h2 : 0 + (m + 1) ≤ 0 := this; omega
  refine hm_of (v := .l h.next 0 0 (m + 1) vs.length none) (h' := h') (fun q => ?_) (k h' (by omega) a2 a3 (.inr ⟨h.next, 0, m + 1, blk, rfl, by omega, hn, by rw [a2.floor]; exact hf, by omega, b1, ⟨by omega, by omega⟩, b4, b5, b6, b7⟩) ?_)
  · rw [hx]
    show boolK (flagB 0) (fun _ => appGrow (selB (Nat.ble 1 0) (Nat.beq size 1)) el id g off 0 fin size (m + 1) vs h q) (fun _ => boolK (Nat.ble (Nat.add 0 (m + 1)) 0) (fun _ => appIn id g off 0 fin 0 size (m + 1) vs h q) fun _ => appOut el id g off 0 fin size (m + 1) vs h q) = _
    rw [flagB_of (by omega), boolK_false, hno, boolK_false]
    unfold appOut
    rw [hble, ifK_true]
    show alloc el (app [] vs) h (fun id h => fN (Nat.add 0 (m + 1)) fun l' => fN (Nat.mul l' size) fun fin' => q (.l id 0 0 l' fin' none) h) = _
    rw [app_eq, List.nil_append, a1, fN_eq, fN_eq]
    show q (.l h.next 0 0 (0 + (m + 1)) ((0 + (m + 1)) * size) none) h' = _
    rw [Nat.zero_add, ← hn]
  · intro id' g off n fin cap e
    cases e
    exact ⟨blk, b1, b3⟩
/-- a row of one cell each, appended -/
theorem new_lst {v : V} (a : Lst h v vs) (k : Nat → List V → Bool) : newCells 1 v h k = k vs.length vs := by
  rcases a with ⟨rfl, rfl⟩ | ⟨id, g, off, fin, cap, rfl, h2, h3, r⟩
  · rfl
  · cases hm : vs.length with
    | zero =>
      have : vs = [] := List.eq_nil_of_length_eq_zero hm
      subst this; rfl
    | succ m =>
      rw [hm] at h2
      show loadN h id g off fin (Nat.mul (m + 1) 1) (fun vs => k (m + 1) vs) = _
      rw [show Nat.mul (m + 1) 1 = vs.length by rw [hm]; exact Nat.mul_one _, loadN_row r rfl (by intro e; rw [e] at hm; simp at hm) (by omega)]
end
end Go.Ev

set_option maxRecDepth 100000
set_option maxHeartbeats 8000000
set_option linter.all false
namespace Go.Proofs.Ytnjgoggnhdpnoaa
open Go Go.Ev
theorem cnan_ok {h : H} {x : Int} : FnOk Try.prog 59 [.i .i64 x] h fun y h' => y = .b false ∧ h' = h := by
  refine fn_go c59 (by intro hb; cases hb) (by simp) (by simp) fun Q hQ => ?_
  simp only [slotsF, Nat.reduceAdd]
  repeat' (first
    | refine St.h ?_
    | simp (disch := first | omega | (simp only [lnv]; omega)) only [wlk, ↓get_put', ↓reduceIte, seval]
    | (with_reducible (first | apply cd_split | apply gd_split)) <;> (intro hc; (try simp only [hcn] at hc); (try simp only [hc]); (try simp only [hcl] at hc); try omega))
  subst hQ
  exact ⟨rfl, rfl⟩
theorem snan_ok {h : H} {x : Int} : FnOk Try.prog 53 [.i .i64 x] h fun y h' => y = .b false ∧ h' = h := by
  refine fn_go c53 (by intro hb; cases hb) (by simp) (by simp) fun Q hQ => ?_
  simp only [slotsF, Nat.reduceAdd]
  repeat' (first
    | refine St.h ?_
    | simp (disch := first | omega | (simp only [lnv]; omega)) only [wlk, ↓get_put', ↓reduceIte, seval]
    | (with_reducible (first | apply cd_split | apply gd_split)) <;> (intro hc; (try simp only [hcn] at hc); (try simp only [hc]); (try simp only [hcl] at hc); try omega))
  subst hQ
  exact ⟨rfl, rfl⟩
theorem cless_ok {h : H} {a b : Int} : FnOk Try.prog 48 [.i .i64 a, .i .i64 b] h fun y h' => y = .b (decide (a < b)) ∧ h' = h := by
  refine fn_go c48 (by intro hb; cases hb) (by simp) (by simp) fun Q hQ => ?_
  simp only [slotsF, Nat.reduceAdd]
  repeat' (first
    | refine St.h ?_
    | simp (disch := first | omega | (simp only [lnv]; omega)) only [wlk, ↓get_put', ↓reduceIte, seval]
    | (with_reducible (first | apply cd_split | apply gd_split)) <;> (intro hc; (try simp only [hcn] at hc); (try simp only [hc]); (try simp only [hcl] at hc); try omega))
  refine CL.pure cnan_ok ?_
  repeat' (first
    | refine St.h ?_
    | simp (disch := first | omega | (simp only [lnv]; omega)) only [wlk, ↓get_put', ↓reduceIte, seval]
    | (with_reducible (first | apply cd_split | apply gd_split)) <;> (intro hc; (try simp only [hcn] at hc); (try simp only [hc]); (try simp only [hcl] at hc); try omega))
  all_goals
    subst hQ
    refine ⟨?_, rfl⟩
    first | rfl | (congr 1; first | exact (decide_eq_true (by omega)).symm | exact (decide_eq_false (by omega)).symm)
/-- a row of ints that is written in place -/
def rI (f : Nat → Int) (n : Nat) : List V := (List.range n).map fun j => .i .i64 (f j)
theorem rI_len {f : Nat → Int} {n : Nat} : (rI f n).length = n := by simp [rI]
theorem rI_getD {f : Nat → Int} {n i : Nat} (hi : i < n) : (rI f n).getD i .u = .i .i64 (f i) := by simp [rI, List.getD, hi]
theorem rI_set {f : Nat → Int} {n j : Nat} {x : Int} : (rI f n).set j (.i .i64 x) = rI (fun k => if k = j then x else f k) n := by
  refine List.ext_getElem (by simp [rI]) fun i h1 h2 => ?_
  simp only [rI, List.getElem_set, List.getElem_map, List.getElem_range]
  by_cases e : j = i
  · subst e; simp
  · rw [if_neg (Ne.symm e)]; simp [e]
theorem rI_of (xs : List Int) : xs.map (V.i .i64) = rI (fun j => xs.getD j 0) xs.length := by
  refine List.ext_getElem (by simp [rI]) fun i h1 h2 => ?_
  have : i < xs.length := by simpa using h1
  simp [rI, List.getD, this]
theorem rI_to (f : Nat → Int) (n : Nat) : rI f n = ((List.range n).map f).map (V.i .i64) := by simp [rI]
section
variable {P : Program} {h h0 : H} {N : Nx} {v : V} {f : Nat → Int} {n i : Nat}
theorem rI_ln (a : Lst h0 v (rI f n)) : H1 P gLen v h N = N.go P (.i .i64 (n : Int)) h := by rw [Lst.ln a, rI_len]
theorem rI_ix (a : Lst h0 v (rI f n)) (hi : i < n) : IX P 1 v i h N = N.go P (.p (lid v) (lg v) (loff v + i) (lfin v)) h := Lst.ix a (by rw [rI_len]; exact hi)
theorem rI_ld (a : Lst h v (rI f n)) (hi : i < n) : L1 P (lid v) (lg v) (loff v + i) (lfin v) h N = N.go P (.i .i64 (f i)) h := by
  rw [Lst.ld a (by rw [rI_len]; exact hi), rI_getD hi]
end
def swp (f : Nat → Int) (j : Nat) : Nat → Int := fun k => if k = j - 1 then f j else if k = j then f (j - 1) else f k
theorem swp_mem {f : Nat → Int} {j n : Nat} (h0 : 0 < j) (hj : j < n) (x : Int) : (∃ i, i < n ∧ swp f j i = x) ↔ ∃ i, i < n ∧ f i = x := by
  constructor
  · rintro ⟨i, hi, e⟩
    unfold swp at e
    by_cases e1 : i = j - 1
    · rw [if_pos e1] at e; exact ⟨j, hj, e⟩
    · rw [if_neg e1] at e
      by_cases e2 : i = j
      · rw [if_pos e2] at e; exact ⟨j - 1, by omega, e⟩
      · rw [if_neg e2] at e; exact ⟨i, hi, e⟩
  · rintro ⟨i, hi, e⟩
    by_cases e1 : i = j
    · exact ⟨j - 1, by omega, by unfold swp; rw [if_pos rfl, ← e1]; exact e⟩
    · by_cases e2 : i = j - 1
      · exact ⟨j, hj, by unfold swp; rw [if_neg (by omega), if_pos rfl, ← e2]; exact e⟩
      · exact ⟨i, hi, by unfold swp; rw [if_neg e2, if_neg e1]; exact e⟩
/-- in order up to i, but for place j, which is not above those behind it -/
def Mid (f : Nat → Int) (i j : Nat) : Prop := (∀ p q, p < q → q ≤ i → p ≠ j → q ≠ j → f p ≤ f q) ∧ ∀ q, j < q → q ≤ i → f j ≤ f q
theorem mid_swp {f : Nat → Int} {i j : Nat} (M : Mid f i j) (h0 : 0 < j) (hj : j ≤ i) (hlt : f j < f (j - 1)) : Mid (swp f j) i (j - 1) := by
  have a1 : swp f j (j - 1) = f j := by unfold swp; rw [if_pos rfl]
  have a2 : swp f j j = f (j - 1) := by unfold swp; rw [if_neg (by omega), if_pos rfl]
  have a3 : ∀ k, k ≠ j - 1 → k ≠ j → swp f j k = f k := fun k h1 h2 => by unfold swp; rw [if_neg h1, if_neg h2]
  constructor
  · intro p q hpq hq hp1 hq1
    by_cases e1 : q = j
    · rw [e1, a2, a3 p hp1 (by omega)]
      exact M.1 p (j - 1) (by omega) (by omega) (by omega) (by omega)
    · rw [a3 q hq1 e1]
      by_cases e2 : p = j
      · rw [e2, a2]; exact M.1 (j - 1) q (by omega) hq (by omega) e1
      · rw [a3 p hp1 e2]; exact M.1 p q hpq hq e2 e1
  · intro q h1 h2
    rw [a1]
    by_cases e : q = j
    · rw [e, a2]; omega
    · rw [a3 q (by omega) e]; exact M.2 q (by omega) h2
theorem mid_done {f : Nat → Int} {i j : Nat} (M : Mid f i j) (hj : j ≤ i) (h : j = 0 ∨ f (j - 1) ≤ f j) : ∀ p q, p ≤ q → q < i + 1 → f p ≤ f q := by
  intro p q hpq hq
  by_cases e : p = q
  · rw [e]; exact Int.le_refl _
  · by_cases e1 : p = j
    · rw [e1]; exact M.2 q (by omega) (by omega)
    · by_cases e2 : q = j
      · rw [e2] at hpq ⊢
        have h := h.resolve_left (by omega)
        by_cases e3 : p = j - 1
        · rw [e3]; exact h
        · have := M.1 p (j - 1) (by omega) (by omega) e1 (by omega); omega
      · exact M.1 p q (by omega) (by omega) e1 e2
theorem isort_ok {h : H} {v : V} {xs : List Int} (hb : Buf h 3 1 v (xs.map (V.i .i64))) (tp : Top h v) (hl : xs.length ≤ 1000) (hw : ∀ n ∈ xs, -9223372036854775808 ≤ n ∧ n ≤ 9223372036854775807) (hf : B.val h.floor ≤ B.val h.next) : FnOk Try.prog 42 [v, .i .i64 0, .i .i64 (xs.length : Int)] h fun y h' =>
    ∃ ys : List Int, SrtI ys ∧ (∀ n, n ∈ ys ↔ n ∈ xs) ∧ ys.length = xs.length ∧ Buf h' 3 1 v (ys.map (V.i .i64)) ∧ Top h' v ∧ Stay (isOf v) h h' := by
  refine fn_go c42 (by intro hb; cases hb) (by simp) (by simp) fun Q hQ => ?_
  simp only [slotsF, Nat.reduceAdd]
  repeat' (first
    | refine St.h ?_
    | simp (disch := first | omega | (simp only [lnv]; omega)) only [wlk, ↓get_put', ↓reduceIte, seval]
    | (with_reducible (first | apply cd_split | apply gd_split)) <;> (intro hc; (try simp only [hcn] at hc); (try simp only [hc]); (try simp only [hcl] at hc); try omega))
  refine Ok.lp (fun m t g => ∃ (i : Nat) (f : Nat → Int), m = xs.length + 1 - i ∧ 1 ≤ i ∧ i ≤ xs.length + 1 ∧ get 0 t = v ∧ get 1 t = .i .i64 0 ∧ get 2 t = .i .i64 (xs.length : Int) ∧ get 6 t = .i .i64 (i : Int) ∧ (∀ p q, p ≤ q → q < i → f p ≤ f q) ∧ (∀ n, (∃ i, i < xs.length ∧ f i = n) ↔ n ∈ xs) ∧ Buf g 3 1 v (rI f xs.length) ∧ Top g v ∧ Stay (isOf v) h g) xs.length ?_ ?_
  · simp (disch := first | omega | (simp only [lnv]; omega)) only [wlk, ↓get_put', ↓reduceIte, seval]
    refine ⟨1, fun j => xs.getD j 0, by omega, by omega, by omega, ?_⟩
    refine ⟨?_, ?_, ?_, ?_, ?_, fun n => ?_, by rw [← rI_of]; exact hb, tp, ⟨rfl, Nat.le_refl _, fun _ _ _ => rfl⟩⟩
    rotate_right
    · constructor
      · rintro ⟨i, hi, e⟩
        rw [← e]; show xs.getD i 0 ∈ xs
        rw [List.getD_eq_getElem?_getD, List.getElem?_eq_getElem hi]; simp
      · intro hn
        obtain ⟨i, hi, e⟩ := List.getElem_of_mem hn
        exact ⟨i, hi, by show xs.getD i 0 = n; rw [List.getD_eq_getElem?_getD, List.getElem?_eq_getElem hi]; simpa using e⟩
    · trivial
    · trivial
    · trivial
    · rfl
    · intro p q h1 h2
      obtain rfl : p = q := by omega
      exact Int.le_refl _
  rintro I hI m t g ⟨i, f, rfl, hi1, hi2, f0, f1, f2, f6, hs, hmem, bf, tg, st⟩
  by_cases hil : i < xs.length
  case neg =>
    repeat' (first
      | refine St.h ?_
      | simp (disch := first | omega | (simp only [lnv]; omega)) only [wlk, ↓get_put', ↓reduceIte, seval, f0, f1, f2, f6]
      | (with_reducible (first | apply cd_split | apply gd_split)) <;> (intro hc; (try simp only [hcn] at hc); (try simp only [hc]); (try simp only [hcl] at hc); try omega))
    subst hQ
    refine ⟨(List.range xs.length).map f, fun a b h1 h2 => ?_, fun n => ?_, by simp, by rw [← rI_to]; exact bf, tg, st⟩
    · have h2 : b < xs.length := by simpa using h2
      have e1 : ((List.range xs.length).map f).getD a 0 = f a := by simp [List.getD, show a < xs.length by omega]
      have e2 : ((List.range xs.length).map f).getD b 0 = f b := by simp [List.getD, h2]
      rw [e1, e2]; exact hs a b h1 (by omega)
    · rw [← hmem n, List.mem_map]
      simp [List.mem_range]
  repeat' (first
    | refine St.h ?_
    | simp (disch := first | omega | (simp only [lnv]; omega)) only [wlk, ↓get_put', ↓reduceIte, seval, f0, f1, f2, f6]
    | (with_reducible (first | apply cd_split | apply gd_split)) <;> (intro hc; (try simp only [hcn] at hc); (try simp only [hc]); (try simp only [hcl] at hc); try omega))
  refine Ok.lp (fun m t g => ∃ (j : Nat) (f : Nat → Int), m = j ∧ j ≤ i ∧ get 0 t = v ∧ get 1 t = .i .i64 0 ∧ get 2 t = .i .i64 (xs.length : Int) ∧ get 6 t = .i .i64 (i : Int) ∧ get 7 t = .i .i64 (j : Int) ∧ Mid f i j ∧ (∀ n, (∃ i, i < xs.length ∧ f i = n) ↔ n ∈ xs) ∧ Buf g 3 1 v (rI f xs.length) ∧ Top g v ∧ Stay (isOf v) h g) i ?_ ?_
  · simp (disch := first | omega | (simp only [lnv]; omega)) only [wlk, ↓get_put', ↓reduceIte, seval, f0, f1, f2, f6]
    refine ⟨i, f, by omega, by omega, ?_⟩
    refine ⟨?_, ?_, ?_, ?_, ?_, ⟨fun p q h1 h2 h3 h4 => hs p q (by omega) (by omega), fun q h1 h2 => by omega⟩, hmem, bf, tg, st⟩
    all_goals first | trivial | rfl
  rintro I2 hI2 m2 t2 g2 ⟨j, f, rfl, hj, e0, e1, e2, e6, e7, hM, hmem, bf, tg, st⟩
  have hl2 := bf.lst
  have w1 : ((m2 : Int) - 1).toNat = m2 - 1 := by omega
  have done : (m2 = 0 ∨ f (m2 - 1) ≤ f m2) → ∀ t3 : F, get 0 t3 = v → get 1 t3 = .i .i64 0 → get 2 t3 = .i .i64 (xs.length : Int) → get 6 t3 = .i .i64 ((i + 1 : Nat) : Int) → LpG I (xs.length + 1 - i) t3 g2 := fun hd t3 x0 x1 x2 x6 => by
    exact lp_next hI (xs.length + 1 - (i + 1)) (by omega) ⟨i + 1, f, rfl, by omega, by omega, x0, x1, x2, x6, mid_done hM hj hd, hmem, bf, tg, st⟩
  repeat' (first
    | refine St.h ?_
    | simp (disch := first | omega | (simp only [lnv]; omega)) only [wlk, ↓get_put', ↓reduceIte, seval, e0, e1, e2, e6, e7, rI_ix hl2, rI_ld hl2, w1, Int.toNat_natCast]
    | (with_reducible (first | apply cd_split | apply gd_split)) <;> (intro hc; (try simp only [hcn] at hc); (try simp only [hc]); (try simp only [hcl] at hc); try omega))
  · refine CL.pure cless_ok ?_
    by_cases hlt : f m2 < f (m2 - 1)
    case neg =>
      rw [decide_eq_false hlt]
      repeat' (first
        | refine St.h ?_
        | simp (disch := first | omega | (simp only [lnv]; omega)) only [wlk, ↓get_put', ↓reduceIte, seval, e0, e1, e2, e6, e7]
        | (with_reducible (first | apply cd_split | apply gd_split)) <;> (intro hc; (try simp only [hcn] at hc); (try simp only [hc]); (try simp only [hcl] at hc); try omega))
      exact done (.inr (by omega)) _ (by simp (disch := first | omega | (simp only [lnv]; omega)) only [wlk, ↓get_put', ↓reduceIte, seval, e0]) (by simp (disch := first | omega | (simp only [lnv]; omega)) only [wlk, ↓get_put', ↓reduceIte, seval, e1]) (by simp (disch := first | omega | (simp only [lnv]; omega)) only [wlk, ↓get_put', ↓reduceIte, seval, e2]) (by simp (disch := first | omega | (simp only [lnv]; omega)) only [wlk, ↓get_put', ↓reduceIte, seval, e6]; rfl)
    rw [decide_eq_true hlt]
    repeat' (first
      | refine St.h ?_
      | simp (disch := first | omega | (simp only [lnv]; omega)) only [wlk, ↓get_put', ↓reduceIte, seval, e0, e1, e2, e6, e7, rI_ix hl2, rI_ld hl2, w1, Int.toNat_natCast]
      | (with_reducible (first | apply cd_split | apply gd_split)) <;> (intro hc; (try simp only [hcn] at hc); (try simp only [hc]); (try simp only [hcl] at hc); try omega))
    refine ST.buf (y := .i .i64 (f (m2 - 1))) bf tg rfl rfl (by rw [rI_len]; omega) (by omega) fun g3 b3 tp3 t3 => ?_
    rw [rI_set] at b3
    have hl3 := b3.lst
    repeat' (first
      | refine St.h ?_
      | simp (disch := first | omega | (simp only [lnv]; omega)) only [wlk, ↓get_put', ↓reduceIte, seval, e0, e1, e2, e6, e7, rI_ix hl3, rI_ld hl3, w1, Int.toNat_natCast]
      | (with_reducible (first | apply cd_split | apply gd_split)) <;> (intro hc; (try simp only [hcn] at hc); (try simp only [hc]); (try simp only [hcl] at hc); try omega))
    refine ST.buf (y := .i .i64 (f m2)) b3 tp3 rfl rfl (by rw [rI_len]; omega) (by omega) fun g4 b4 tp4 t4 => ?_
    rw [rI_set] at b4
    repeat' (first
      | refine St.h ?_
      | simp (disch := first | omega | (simp only [lnv]; omega)) only [wlk, ↓get_put', ↓reduceIte, seval, e0, e1, e2, e6, e7]
      | (with_reducible (first | apply cd_split | apply gd_split)) <;> (intro hc; (try simp only [hcn] at hc); (try simp only [hc]); (try simp only [hcl] at hc); try omega))
    refine lp_next hI2 (m2 - 1) (by omega) ⟨m2 - 1, swp f m2, rfl, by omega, by simp (disch := first | omega | (simp only [lnv]; omega)) only [wlk, ↓get_put', ↓reduceIte, seval, e0], by simp (disch := first | omega | (simp only [lnv]; omega)) only [wlk, ↓get_put', ↓reduceIte, seval, e1], by simp (disch := first | omega | (simp only [lnv]; omega)) only [wlk, ↓get_put', ↓reduceIte, seval, e2], by simp (disch := first | omega | (simp only [lnv]; omega)) only [wlk, ↓get_put', ↓reduceIte, seval, e6], by simp (disch := first | omega | (simp only [lnv]; omega)) only [wlk, ↓get_put', ↓reduceIte, seval, e7]; congr 1; omega, mid_swp hM (by omega) hj hlt, fun n => by rw [swp_mem (by omega) (by omega)]; exact hmem n, b4, tp4, st.trans (t3.trans t4)⟩
  · repeat' (first
      | refine St.h ?_
      | simp (disch := first | omega | (simp only [lnv]; omega)) only [wlk, ↓get_put', ↓reduceIte, seval, e0, e1, e2, e6, e7]
      | (with_reducible (first | apply cd_split | apply gd_split)) <;> (intro hc; (try simp only [hcn] at hc); (try simp only [hc]); (try simp only [hcl] at hc); try omega))
    exact done (.inl (by omega)) _ (by simp (disch := first | omega | (simp only [lnv]; omega)) only [wlk, ↓get_put', ↓reduceIte, seval, e0]) (by simp (disch := first | omega | (simp only [lnv]; omega)) only [wlk, ↓get_put', ↓reduceIte, seval, e1]) (by simp (disch := first | omega | (simp only [lnv]; omega)) only [wlk, ↓get_put', ↓reduceIte, seval, e2]) (by simp (disch := first | omega | (simp only [lnv]; omega)) only [wlk, ↓get_put', ↓reduceIte, seval, e6]; rfl)
def tabL : List UInt8 := [0, 1, 2, 2, 3, 3, 3, 3] ++ List.replicate 8 4 ++ List.replicate 16 5 ++ List.replicate 32 6 ++ List.replicate 64 7 ++ List.replicate 128 8
theorem tabL_len : tabL.length = 256 := by decide
theorem tabL_le (j : Nat) : (tabL.getD j 0).toNat ≤ 8 := by
  have : ∀ x ∈ tabL, x.toNat ≤ 8 := by decide
  by_cases h : j < tabL.length
  · rw [List.getD_eq_getElem?_getD, List.getElem?_eq_getElem h]
    exact this _ (List.getElem_mem h)
  · rw [List.getD_eq_getElem?_getD, List.getElem?_eq_none (by omega)]
    show 0 ≤ 8; omega
theorem tabL_s : V.s 256 496986003408712215933005303621146343841837811690876167382323004466384420695090407243345123874780946046625255262057845613767806773758184921447759720770971536008171983842311960805720366577116933250839345203839274948261284255908394484732272583221484877694546905335834403051067785895034095251181560891789708940188598129052595634438001880866652824740680664595948164050600812232986714152902334120417949232733424961741260388658846598210939813666227264727603044226856020347194099943897342244906131705541414413428559898943151040826816076322978570758226444464494629814583418847495712557856038296917933182380796641777551368 = sv tabL := by rfl
theorem tabL_ix {P : Program} {h : H} {N : Nx} {kd : IntKind} {x : Int} (h0 : 0 ≤ x) (h1 : x < 256) : H2 P gSIndex (sv tabL) (.i kd x) h N = N.go P (.i .u8 ((min 8 (tabL.getD x.toNat 0).toNat : Nat) : Int)) h := by
  rw [h2_sindex h0 (by rw [tabL_len]; exact h1), Nat.min_eq_right (tabL_le _)]
theorem len64N_ok {h : H} {n : Nat} (hn : n < 18446744073709551616) : FnOk Try.prog 52 [.i .u64 (n : Int)] h fun y h' => ∃ k : Nat, k ≤ 64 ∧ y = .i .i64 (k : Int) ∧ h' = h := by
  refine fn_go c52 (by intro hb; cases hb) (by simp) (by simp) fun Q hQ => ?_
  simp only [slotsF, Nat.reduceAdd]
  repeat' (first
    | refine St.h ?_
    | simp (disch := first | omega | (simp only [lnv]; omega)) only [wlk, ↓get_put', ↓reduceIte, seval, Int.toNat_natCast, tabL_s, tabL_ix]
    | (with_reducible (first | apply cd_split | apply gd_split)) <;> (intro hc; (try simp only [hcn] at hc); (try simp only [hc]); (try simp only [hcl] at hc); try omega))
  all_goals
    subst hQ
    refine ⟨(_ : Int).toNat, ?_, congrArg (V.i .i64) (Int.toNat_of_nonneg ?_).symm, rfl⟩ <;> omega
theorem len_ok {h : H} {n : Nat} (hn : n ≤ 1000) : FnOk Try.prog 39 [.i .u64 (n : Int)] h fun y h' => ∃ k : Int, y = .i .i64 k ∧ h' = h := by
  refine fn_go c39 (by intro hb; cases hb) (by simp) (by simp) fun Q hQ => ?_
  simp only [slotsF, Nat.reduceAdd]
  repeat' (first
    | refine St.h ?_
    | simp (disch := first | omega | (simp only [lnv]; omega)) only [wlk, ↓get_put', ↓reduceIte, seval]
    | (with_reducible (first | apply cd_split | apply gd_split)) <;> (intro hc; (try simp only [hcn] at hc); (try simp only [hc]); (try simp only [hcl] at hc); try omega))
  refine CL.mk (len64N_ok (n := n) (by omega)) ?_
  rintro _ _ ⟨k, hk, rfl, rfl⟩
  repeat' (first
    | refine St.h ?_
    | simp (disch := first | omega | (simp only [lnv]; omega)) only [wlk, ↓get_put', ↓reduceIte, seval]
    | (with_reducible (first | apply cd_split | apply gd_split)) <;> (intro hc; (try simp only [hcn] at hc); (try simp only [hc]); (try simp only [hcl] at hc); try omega))
  subst hQ
  exact ⟨_, rfl, rfl⟩
/-- few ints are sorted by insertion -/
theorem pdq_ok {h : H} {v : V} {xs : List Int} {k : Int} (hb : Buf h 3 1 v (xs.map (V.i .i64))) (tp : Top h v) (hl : xs.length ≤ 12) (hw : ∀ n ∈ xs, -9223372036854775808 ≤ n ∧ n ≤ 9223372036854775807) (hf : B.val h.floor ≤ B.val h.next) : FnOk Try.prog 38 [v, .i .i64 0, .i .i64 (xs.length : Int), .i .i64 k] h fun y h' =>
    ∃ ys : List Int, SrtI ys ∧ (∀ n, n ∈ ys ↔ n ∈ xs) ∧ ys.length = xs.length ∧ Buf h' 3 1 v (ys.map (V.i .i64)) ∧ Top h' v ∧ Stay (isOf v) h h' := by
  refine fn_go c38 (by intro hb; cases hb) (by simp) (by simp) fun Q hQ => ?_
  simp only [slotsF, Nat.reduceAdd]
  repeat' (first
    | refine St.h ?_
    | simp (disch := first | omega | (simp only [lnv]; omega)) only [wlk, ↓get_put', ↓reduceIte, seval]
    | (with_reducible (first | apply cd_split | apply gd_split)) <;> (intro hc; (try simp only [hcn] at hc); (try simp only [hc]); (try simp only [hcl] at hc); try omega))
  refine Ok.lp (fun m t g => m = 0 ∧ h = g ∧ get 0 t = v ∧ get 1 t = .i .i64 0 ∧ get 2 t = .i .i64 (xs.length : Int)) 0 ?_ ?_
  · simp (disch := first | omega | (simp only [lnv]; omega)) only [wlk, ↓get_put', ↓reduceIte, seval]
    repeat' (first | trivial | rfl | refine And.intro ?_ ?_)
  rintro I hI m t g ⟨rfl, rfl, f0, f1, f2⟩
  repeat' (first
    | refine St.h ?_
    | simp (disch := first | omega | (simp only [lnv]; omega)) only [wlk, ↓get_put', ↓reduceIte, seval, f0, f1, f2]
    | (with_reducible (first | apply cd_split | apply gd_split)) <;> (intro hc; (try simp only [hcn] at hc); (try simp only [hc]); (try simp only [hcl] at hc); try omega))
  refine CL.mk (isort_ok hb tp (by omega) hw hf) ?_
  rintro y h1 ⟨ys, p1, p2, p3, p4, p5, p6⟩
  repeat' (first
    | refine St.h ?_
    | simp (disch := first | omega | (simp only [lnv]; omega)) only [wlk, ↓get_put', ↓reduceIte, seval]
    | (with_reducible (first | apply cd_split | apply gd_split)) <;> (intro hc; (try simp only [hcn] at hc); (try simp only [hc]); (try simp only [hcl] at hc); try omega))
  subst hQ
  exact ⟨ys, p1, p2, p3, p4, p5, p6⟩
theorem sort_ok {h : H} {v : V} {xs : List Int} (hb : Buf h 3 1 v (xs.map (V.i .i64))) (tp : Top h v) (hl : xs.length ≤ 12) (hw : ∀ n ∈ xs, -9223372036854775808 ≤ n ∧ n ≤ 9223372036854775807) (hf : B.val h.floor ≤ B.val h.next) : FnOk Try.prog 28 [v] h fun y h' =>
    ∃ ys : List Int, SrtI ys ∧ (∀ n, n ∈ ys ↔ n ∈ xs) ∧ ys.length = xs.length ∧ Buf h' 3 1 v (ys.map (V.i .i64)) ∧ Top h' v ∧ Stay (isOf v) h h' := by
  have hln : ∀ N, H1 Try.prog gLen v h N = N.go Try.prog (.i .i64 (xs.length : Int)) h := fun N => by rw [Lst.ln hb.lst, List.length_map]
  refine fn_go c28 (by intro hb; cases hb) (by simp) (by simp) fun Q hQ => ?_
  simp only [slotsF, Nat.reduceAdd]
  repeat' (first
    | refine St.h ?_
    | simp (disch := first | omega | (simp only [lnv]; omega)) only [wlk, ↓get_put', ↓reduceIte, seval, hln]
    | (with_reducible (first | apply cd_split | apply gd_split)) <;> (intro hc; (try simp only [hcn] at hc); (try simp only [hc]); (try simp only [hcl] at hc); try omega))
  refine CL.mk (len_ok (n := xs.length) (by omega)) ?_
  rintro _ _ ⟨k, rfl, rfl⟩
  repeat' (first
    | refine St.h ?_
    | simp (disch := first | omega | (simp only [lnv]; omega)) only [wlk, ↓get_put', ↓reduceIte, seval]
    | (with_reducible (first | apply cd_split | apply gd_split)) <;> (intro hc; (try simp only [hcn] at hc); (try simp only [hc]); (try simp only [hcl] at hc); try omega))
  refine CL.mk (pdq_ok hb tp hl hw hf) ?_
  rintro y h1 ⟨ys, p1, p2, p3, p4, p5, p6⟩
  repeat' (first
    | refine St.h ?_
    | simp (disch := first | omega | (simp only [lnv]; omega)) only [wlk, ↓get_put', ↓reduceIte, seval]
    | (with_reducible (first | apply cd_split | apply gd_split)) <;> (intro hc; (try simp only [hcn] at hc); (try simp only [hc]); (try simp only [hcl] at hc); try omega))
  subst hQ
  exact ⟨ys, p1, p2, p3, p4, p5, p6⟩
theorem bsearch_ok {h : H} {v : V} {xs : List Int} {x : Int} (hL : Lst h v (xs.map (V.i .i64))) (hl : xs.length ≤ 1000) : FnOk Try.prog 40 [v, .i .i64 x] h fun y h' =>
    ∃ (k : Nat) (b : Bool), y = .tu [.i .i64 (k : Int), .b b] ∧ k ≤ xs.length ∧ (0 < k → xs.getD (k - 1) 0 < x) ∧ (k < xs.length → x ≤ xs.getD k 0) ∧ h' = h := by
  have hL : Lst h v (rI (fun j => xs.getD j 0) xs.length) := by rw [← rI_of]; exact hL
  refine fn_go c40 (by intro hb; cases hb) (by simp) (by simp) fun Q hQ => ?_
  simp only [slotsF, Nat.reduceAdd]
  repeat' (first
    | refine St.h ?_
    | simp (disch := first | omega | (simp only [lnv]; omega)) only [wlk, ↓get_put', ↓reduceIte, seval, rI_ln hL]
    | (with_reducible (first | apply cd_split | apply gd_split)) <;> (intro hc; (try simp only [hcn] at hc); (try simp only [hc]); (try simp only [hcl] at hc); try omega))
  refine Ok.lp (fun m t g => ∃ i j : Nat, m = j - i ∧ i ≤ j ∧ j ≤ xs.length ∧ h = g ∧ (0 < i → xs.getD (i - 1) 0 < x) ∧ (j < xs.length → x ≤ xs.getD j 0) ∧ get 0 t = v ∧ get 1 t = .i .i64 x ∧ get 6 t = .i .i64 (xs.length : Int) ∧ get 7 t = .i .i64 (i : Int) ∧ get 8 t = .i .i64 (j : Int)) xs.length ?_ ?_
  · simp (disch := first | omega | (simp only [lnv]; omega)) only [wlk, ↓get_put', ↓reduceIte, seval]
    refine ⟨0, xs.length, by omega, by omega, by omega, trivial, fun h => by omega, fun h => by omega, ?_, ?_, ?_, ?_, ?_⟩ <;> first | trivial | rfl
  rintro I hI m t g ⟨i, j, rfl, hij, hjn, rfl, h1, h2, f0, f1, f6, f7, f8⟩
  by_cases hlt : i < j
  case neg =>
    obtain rfl : i = j := by omega
    by_cases hin : i < xs.length
    case neg =>
      repeat' (first
        | refine St.h ?_
        | simp (disch := first | omega | (simp only [lnv]; omega)) only [wlk, ↓get_put', ↓reduceIte, seval, f0, f1, f6, f7, f8]
        | (with_reducible (first | apply cd_split | apply gd_split)) <;> (intro hc; (try simp only [hcn] at hc); (try simp only [hc]); (try simp only [hcl] at hc); try omega))
      subst hQ
      exact ⟨i, _, rfl, hjn, h1, h2, rfl⟩
    by_cases hxx : xs.getD i 0 = x
    case pos =>
      have d1 : (xs.getD i 0 = x) = True := eq_true hxx
      repeat' (first
        | refine St.h ?_
        | simp (disch := first | omega | (simp only [lnv]; omega)) only [wlk, ↓get_put', ↓reduceIte, seval, f0, f1, f6, f7, f8, rI_ix hL, rI_ld hL, d1, Int.toNat_natCast]
        | (with_reducible (first | apply cd_split | apply gd_split)) <;> (intro hc; (try simp only [hcn] at hc); (try simp only [hc]); (try simp only [hcl] at hc); try omega))
      subst hQ
      exact ⟨i, _, rfl, hjn, h1, h2, rfl⟩
    have d1 : (xs.getD i 0 = x) = False := eq_false hxx
    repeat' (first
      | refine St.h ?_
      | simp (disch := first | omega | (simp only [lnv]; omega)) only [wlk, ↓get_put', ↓reduceIte, seval, f0, f1, f6, f7, f8, rI_ix hL, rI_ld hL, d1, Int.toNat_natCast]
      | (with_reducible (first | apply cd_split | apply gd_split)) <;> (intro hc; (try simp only [hcn] at hc); (try simp only [hc]); (try simp only [hcl] at hc); try omega))
    refine CL.pure snan_ok ?_
    repeat' (first
      | refine St.h ?_
      | simp (disch := first | omega | (simp only [lnv]; omega)) only [wlk, ↓get_put', ↓reduceIte, seval, f0, f1, f6, f7, f8]
      | (with_reducible (first | apply cd_split | apply gd_split)) <;> (intro hc; (try simp only [hcn] at hc); (try simp only [hc]); (try simp only [hcl] at hc); try omega))
    subst hQ
    exact ⟨i, _, rfl, hjn, h1, h2, rfl⟩
  have hm : ((i : Int) + (j : Int)).toNat / 2 = (i + j) / 2 := by omega
  have hm2 : ((i : Int) + (j : Int)) / 2 = (((i + j) / 2 : Nat) : Int) := by omega
  repeat' (first
    | refine St.h ?_
    | simp (disch := first | omega | (simp only [lnv]; omega)) only [wlk, ↓get_put', ↓reduceIte, seval, f0, f1, f6, f7, f8, hm, hm2, rI_ix hL, rI_ld hL, Int.toNat_natCast]
    | (with_reducible (first | apply cd_split | apply gd_split)) <;> (intro hc; (try simp only [hcn] at hc); (try simp only [hc]); (try simp only [hcl] at hc); try omega))
  refine CL.pure cless_ok ?_
  by_cases hb : xs.getD ((i + j) / 2) 0 < x
  case neg =>
    rw [decide_eq_false hb]
    repeat' (first
      | refine St.h ?_
      | simp (disch := first | omega | (simp only [lnv]; omega)) only [wlk, ↓get_put', ↓reduceIte, seval, f0, f1, f6, f7, f8]
      | (with_reducible (first | apply cd_split | apply gd_split)) <;> (intro hc; (try simp only [hcn] at hc); (try simp only [hc]); (try simp only [hcl] at hc); try omega))
    refine lp_next hI ((i + j) / 2 - i) (by omega) ⟨i, (i + j) / 2, rfl, by omega, by omega, rfl, h1, fun _ => by omega, by simp (disch := first | omega | (simp only [lnv]; omega)) only [wlk, ↓get_put', ↓reduceIte, seval, f0], by simp (disch := first | omega | (simp only [lnv]; omega)) only [wlk, ↓get_put', ↓reduceIte, seval, f1], by simp (disch := first | omega | (simp only [lnv]; omega)) only [wlk, ↓get_put', ↓reduceIte, seval, f6], by simp (disch := first | omega | (simp only [lnv]; omega)) only [wlk, ↓get_put', ↓reduceIte, seval, f7], by simp (disch := first | omega | (simp only [lnv]; omega)) only [wlk, ↓get_put', ↓reduceIte, seval]⟩
  case pos =>
    rw [decide_eq_true hb]
    repeat' (first
      | refine St.h ?_
      | simp (disch := first | omega | (simp only [lnv]; omega)) only [wlk, ↓get_put', ↓reduceIte, seval, f0, f1, f6, f7, f8]
      | (with_reducible (first | apply cd_split | apply gd_split)) <;> (intro hc; (try simp only [hcn] at hc); (try simp only [hc]); (try simp only [hcl] at hc); try omega))
    refine lp_next hI (j - ((i + j) / 2 + 1)) (by omega) ⟨(i + j) / 2 + 1, j, rfl, by omega, by omega, rfl, fun _ => by rw [Nat.add_sub_cancel]; exact hb, h2, by simp (disch := first | omega | (simp only [lnv]; omega)) only [wlk, ↓get_put', ↓reduceIte, seval, f0], by simp (disch := first | omega | (simp only [lnv]; omega)) only [wlk, ↓get_put', ↓reduceIte, seval, f1], by simp (disch := first | omega | (simp only [lnv]; omega)) only [wlk, ↓get_put', ↓reduceIte, seval, f6], by simp (disch := first | omega | (simp only [lnv]; omega)) only [wlk, ↓get_put', ↓reduceIte, seval]; rfl, by simp (disch := first | omega | (simp only [lnv]; omega)) only [wlk, ↓get_put', ↓reduceIte, seval, f8]⟩
theorem isNone_ok {h : H} {e : Ent} (hf : B.val h.floor ≤ B.val h.next) : FnOk Try.prog 26 [.a (entC e)] h fun y h' => y = .b (!isE e) ∧ Stay nowhere h h' := by
  obtain ⟨xk, xq, xd, xv⟩ := e
  unfold entC
  refine fn_go c26 (by intro hb; cases hb) (by simp) (by simp) fun Q hQ => ?_
  simp only [slotsF, Nat.reduceAdd]
  repeat' (first
    | refine St.h ?_
    | simp (disch := first | omega | (simp only [lnv]; omega)) only [wlk, ↓get_put', ↓reduceIte, seval]
    | (with_reducible (first | apply cd_split | apply gd_split)) <;> (intro hc; (try simp only [hcn] at hc); (try simp only [hc]); (try simp only [hcl] at hc); try omega))
  refine AL.own (by simp) hf fun h1 s1 n1 o1 => ?_
  repeat' (first
    | refine St.h ?_
    | simp (disch := first | omega | (simp only [lnv]; omega)) only [wlk, ↓get_put', ↓reduceIte, seval, o1.row.ln]
    | (with_reducible (first | apply cd_split | apply gd_split)) <;> (intro hc; (try simp only [hcn] at hc); (try simp only [hc]); (try simp only [hcl] at hc); try omega))
  refine CL.stay (is_ok (e := ⟨xk, xq, xd, xv⟩) (s1.fl hf)) fun h2 s2 => ?_
  repeat' (first
    | refine St.h ?_
    | simp (disch := first | omega | (simp only [lnv]; omega)) only [wlk, ↓get_put', ↓reduceIte, seval]
    | (with_reducible (first | apply cd_split | apply gd_split)) <;> (intro hc; (try simp only [hcn] at hc); (try simp only [hc]); (try simp only [hcl] at hc); try omega))
  subst hQ
  exact ⟨rfl, s1.trans s2⟩
theorem indexNone_ok {h : H} {v : V} {L : List Ent} (hL : Es h v L) (hl : L.length ≤ 1000000) (hf : B.val h.floor ≤ B.val h.next) : FnOk Try.prog 36 [v, .f 26 []] h fun y h' =>
    ∃ k : Int, y = .i .i64 k ∧ -1 ≤ k ∧ k ≤ L.length ∧ (0 ≤ k ↔ L.all isE = false) ∧ Stay nowhere h h' := by
  refine fn_go c36 (by intro hb; cases hb) (by simp) (by simp) fun Q hQ => ?_
  simp only [slotsF, Nat.reduceAdd]
  repeat' (first
    | refine St.h ?_
    | simp (disch := first | omega | (simp only [lnv]; omega)) only [wlk, ↓get_put', ↓reduceIte, seval, hL.ln]
    | (with_reducible (first | apply cd_split | apply gd_split)) <;> (intro hc; (try simp only [hcn] at hc); (try simp only [hc]); (try simp only [hcl] at hc); try omega))
  refine Ok.lp (fun m t g => ∃ i : Nat, m = L.length - i ∧ i ≤ L.length ∧ get 0 t = v ∧ get 1 t = .f 26 [] ∧ get 7 t = .i .i64 (L.length : Int) ∧ get 8 t = .i .i64 (i : Int) ∧ (∀ q, q < i → isE (L.getD q default) = true) ∧ Stay nowhere h g) L.length ?_ ?_
  · simp (disch := first | omega | (simp only [lnv]; omega)) only [wlk, ↓get_put', ↓reduceIte, seval]
    refine ⟨0, by omega, by omega, ?_⟩
    refine ⟨?_, ?_, ?_, ?_, fun q hq => by omega, Stay.refl _ _⟩
    all_goals first | trivial | rfl
  rintro I hI m t g ⟨i, rfl, hi, f0, f1, f7, f8, hno, st⟩
  have hfg := st.fl hf
  have hLg := hL.grow st
  by_cases hil : i < L.length
  case neg =>
    obtain rfl : i = L.length := by omega
    repeat' (first
      | refine St.h ?_
      | simp (disch := first | omega | (simp only [lnv]; omega)) only [wlk, ↓get_put', ↓reduceIte, seval, f0, f1, f7, f8]
      | (with_reducible (first | apply cd_split | apply gd_split)) <;> (intro hc; (try simp only [hcn] at hc); (try simp only [hc]); (try simp only [hcl] at hc); try omega))
    subst hQ
    exact ⟨_, rfl, by omega, by omega, by rw [all_ok hno]; simp, st⟩
  repeat' (first
    | refine St.h ?_
    | simp (disch := first | omega | (simp only [lnv]; omega)) only [wlk, ↓get_put', ↓reduceIte, seval, f0, f1, f7, f8, hL.ix, hLg.la, Int.toNat_natCast]
    | (with_reducible (first | apply cd_split | apply gd_split)) <;> (intro hc; (try simp only [hcn] at hc); (try simp only [hc]); (try simp only [hcl] at hc); try omega))
  refine CL.stay (isNone_ok (e := L.getD i default) hfg) fun g1 t1 => ?_
  cases he : isE (L.getD i default) with
  | false =>
    repeat' (first
      | refine St.h ?_
      | simp (disch := first | omega | (simp only [lnv]; omega)) only [wlk, ↓get_put', ↓reduceIte, seval, f0, f1, f7, f8]
      | (with_reducible (first | apply cd_split | apply gd_split)) <;> (intro hc; (try simp only [hcn] at hc); (try simp only [hc]); (try simp only [hcl] at hc); try omega))
    subst hQ
    exact ⟨_, rfl, by omega, by omega, by rw [all_at hil he]; simp, st.trans t1⟩
  | true =>
    repeat' (first
      | refine St.h ?_
      | simp (disch := first | omega | (simp only [lnv]; omega)) only [wlk, ↓get_put', ↓reduceIte, seval, f0, f1, f7, f8]
      | (with_reducible (first | apply cd_split | apply gd_split)) <;> (intro hc; (try simp only [hcn] at hc); (try simp only [hc]); (try simp only [hcl] at hc); try omega))
    refine lp_next hI (L.length - (i + 1)) (by omega) ⟨i + 1, rfl, by omega, by simp (disch := first | omega | (simp only [lnv]; omega)) only [wlk, ↓get_put', ↓reduceIte, seval, f0], by simp (disch := first | omega | (simp only [lnv]; omega)) only [wlk, ↓get_put', ↓reduceIte, seval, f1], by simp (disch := first | omega | (simp only [lnv]; omega)) only [wlk, ↓get_put', ↓reduceIte, seval, f7], by simp (disch := first | omega | (simp only [lnv]; omega)) only [wlk, ↓get_put', ↓reduceIte, seval, f8]; rfl, fun q hq => ?_, st.trans t1⟩
    by_cases e : q = i
    · rw [e]; exact he
    · exact hno q (by omega)
theorem anyNone_ok {h : H} {v : V} {L : List Ent} (hL : Es h v L) (hl : L.length ≤ 1000000) (hf : B.val h.floor ≤ B.val h.next) : FnOk Try.prog 25 [v, .f 26 []] h fun y h' => y = .b (!L.all isE) ∧ Stay nowhere h h' := by
  refine fn_go c25 (by intro hb; cases hb) (by simp) (by simp) fun Q hQ => ?_
  simp only [slotsF, Nat.reduceAdd]
  repeat' (first
    | refine St.h ?_
    | simp (disch := first | omega | (simp only [lnv]; omega)) only [wlk, ↓get_put', ↓reduceIte, seval]
    | (with_reducible (first | apply cd_split | apply gd_split)) <;> (intro hc; (try simp only [hcn] at hc); (try simp only [hc]); (try simp only [hcl] at hc); try omega))
  refine CL.mk (indexNone_ok hL hl hf) ?_
  rintro _ h1 ⟨k, rfl, k1, k2, k3, s1⟩
  have hk : decide (0 ≤ k) = !L.all isE := by
    cases hh : L.all isE with
    | false => exact decide_eq_true (k3.2 hh)
    | true => exact decide_eq_false fun h => by rw [k3.1 h] at hh; cases hh
  repeat' (first
    | refine St.h ?_
    | simp (disch := first | omega | (simp only [lnv]; omega)) only [wlk, ↓get_put', ↓reduceIte, seval]
    | (with_reducible (first | apply cd_split | apply gd_split)) <;> (intro hc; (try simp only [hcn] at hc); (try simp only [hc]); (try simp only [hcl] at hc); try omega))
  subst hQ
  exact ⟨by rw [hk], s1⟩
end Go.Proofs.Ytnjgoggnhdpnoaa

set_option maxRecDepth 100000
set_option maxHeartbeats 8000000
set_option linter.all false
namespace Go.Proofs.Ytnjgoggnhdpnoaa
open Go Go.Ev
theorem cloneE0_ok {h : H} : FnOk Try.prog 34 [.l0] h fun y h' => y = .l0 ∧ h' = h := by
  refine fn_go c34 (by intro hb; cases hb) (by simp) (by simp) fun Q hQ => ?_
  simp only [slotsF, Nat.reduceAdd]
  repeat' (first
    | refine St.h ?_
    | simp (disch := first | omega | (simp only [lnv]; omega)) only [wlk, ↓get_put', ↓reduceIte, seval]
    | (with_reducible (first | apply cd_split | apply gd_split)) <;> (intro hc; (try simp only [hcn] at hc); (try simp only [hc]); (try simp only [hcl] at hc); try omega))
  subst hQ
  exact ⟨rfl, rfl⟩
theorem cloneE1_ok {h : H} {id : B} {gg off len fin : Nat} {cap : Option Nat} {L : List Ent} (hL : Es h (.l id gg off len fin cap) L) (hl : L.length ≤ 100000) (hf : B.val h.floor ≤ B.val h.next) : FnOk Try.prog 34 [.l id gg off len fin cap] h fun y h' => Es h' y L ∧ SwN 4 y ∧ Stay nowhere h h' := by
  refine fn_go c34 (by intro hb; cases hb) (by simp) (by simp) fun Q hQ => ?_
  simp only [slotsF, Nat.reduceAdd]
  repeat' (first
    | refine St.h ?_
    | simp (disch := first | omega | (simp only [lnv]; omega)) only [wlk, ↓get_put', ↓reduceIte, seval]
    | (with_reducible (first | apply cd_split | apply gd_split)) <;> (intro hc; (try simp only [hcn] at hc); (try simp only [hc]); (try simp only [hcl] at hc); try omega))
  refine AL.own (by simp) hf fun h1 s1 n1 o1 => ?_
  have hf1 := s1.fl hf
  repeat' (first
    | refine St.h ?_
    | simp (disch := first | omega | (simp only [lnv]; omega)) only [wlk, ↓get_put', ↓reduceIte, seval]
    | (with_reducible (first | apply cd_split | apply gd_split)) <;> (intro hc; (try simp only [hcn] at hc); (try simp only [hc]); (try simp only [hcl] at hc); try omega))
  refine AP.e1 (new_ss (hL.grow s1) entC_len (by omega)) hf1 (fm_len entC_len L) (by omega) (by rw [fm_len entC_len L]; omega) (fun e => ?_) fun h2 e s2 n2 b2 tp2 => ?_
  · have : L = [] := List.eq_nil_of_length_eq_zero e
    subst this
    repeat' (first
      | refine St.h ?_
      | simp (disch := first | omega | (simp only [lnv]; omega)) only [wlk, ↓get_put', ↓reduceIte, seval]
      | (with_reducible (first | apply cd_split | apply gd_split)) <;> (intro hc; (try simp only [hcn] at hc); (try simp only [hc]); (try simp only [hcl] at hc); try omega))
    subst hQ
    exact ⟨Ss.lit o1 rfl entC_len rfl (by simp), .inr ⟨_, _, _, _, _, _, rfl, by simp⟩, s1⟩
  · repeat' (first
      | refine St.h ?_
      | simp (disch := first | omega | (simp only [lnv]; omega)) only [wlk, ↓get_put', ↓reduceIte, seval]
      | (with_reducible (first | apply cd_split | apply gd_split)) <;> (intro hc; (try simp only [hcn] at hc); (try simp only [hc]); (try simp only [hcl] at hc); try omega))
    subst hQ
    exact ⟨Ss.buf b2 rfl entC_len (by omega), swn_bufE b2, s1.trans s2⟩
theorem cloneE_ok {h : H} {v : V} {L : List Ent} (hL : Es h v L) (hl : L.length ≤ 100000) (hf : B.val h.floor ≤ B.val h.next) : FnOk Try.prog 34 [v] h fun y h' => Es h' y L ∧ SwN 4 y ∧ Stay nowhere h h' := by
  have hL0 := hL
  rcases hL with ⟨rfl, rfl⟩ | ⟨id, gg, off, fin, cap, rfl, hh⟩
  · exact cloneE0_ok.mono fun y h' ⟨a, b⟩ => by rw [a, b]; exact ⟨Ss.nil, .inl rfl, Stay.refl _ _⟩
  · exact cloneE1_ok hL0 hl hf
theorem cloneI0_ok {h : H} : FnOk Try.prog 27 [.l0] h fun y h' => y = .l0 ∧ h' = h := by
  refine fn_go c27 (by intro hb; cases hb) (by simp) (by simp) fun Q hQ => ?_
  simp only [slotsF, Nat.reduceAdd]
  repeat' (first
    | refine St.h ?_
    | simp (disch := first | omega | (simp only [lnv]; omega)) only [wlk, ↓get_put', ↓reduceIte, seval]
    | (with_reducible (first | apply cd_split | apply gd_split)) <;> (intro hc; (try simp only [hcn] at hc); (try simp only [hc]); (try simp only [hcl] at hc); try omega))
  subst hQ
  exact ⟨rfl, rfl⟩
/-- what comes of a clone of ints -/
def ClI (h h' : H) (y : V) (S : List Int) : Prop := (S = [] ∧ ∃ id g off fin, y = .l id g off 0 fin (some 0)) ∨ (Buf h' 3 1 y (S.map (V.i .i64)) ∧ ∀ q, isOf y q → B.val h.next ≤ B.val q)
theorem cloneI1_ok {h : H} {id : B} {gg off len fin : Nat} {cap : Option Nat} {S : List Int} (hS : Lst h (.l id gg off len fin cap) (S.map (V.i .i64))) (hl : S.length ≤ 100000) (hf : B.val h.floor ≤ B.val h.next) : FnOk Try.prog 27 [.l id gg off len fin cap] h fun y h' => ClI h h' y S ∧ Stay nowhere h h' := by
  refine fn_go c27 (by intro hb; cases hb) (by simp) (by simp) fun Q hQ => ?_
  simp only [slotsF, Nat.reduceAdd]
  repeat' (first
    | refine St.h ?_
    | simp (disch := first | omega | (simp only [lnv]; omega)) only [wlk, ↓get_put', ↓reduceIte, seval]
    | (with_reducible (first | apply cd_split | apply gd_split)) <;> (intro hc; (try simp only [hcn] at hc); (try simp only [hc]); (try simp only [hcl] at hc); try omega))
  refine AL.own (by simp) hf fun h1 s1 n1 o1 => ?_
  have hf1 := s1.fl hf
  repeat' (first
    | refine St.h ?_
    | simp (disch := first | omega | (simp only [lnv]; omega)) only [wlk, ↓get_put', ↓reduceIte, seval]
    | (with_reducible (first | apply cd_split | apply gd_split)) <;> (intro hc; (try simp only [hcn] at hc); (try simp only [hc]); (try simp only [hcl] at hc); try omega))
  refine AP.e1 (new_lst (hS.grow s1)) hf1 (by simp) (by simp; omega) (by simp; omega) (fun e => ?_) fun h2 e s2 n2 b2 tp2 => ?_
  · have : S = [] := List.eq_nil_of_length_eq_zero (by simpa using e)
    subst this
    repeat' (first
      | refine St.h ?_
      | simp (disch := first | omega | (simp only [lnv]; omega)) only [wlk, ↓get_put', ↓reduceIte, seval]
      | (with_reducible (first | apply cd_split | apply gd_split)) <;> (intro hc; (try simp only [hcn] at hc); (try simp only [hc]); (try simp only [hcl] at hc); try omega))
    subst hQ
    exact ⟨.inl ⟨rfl, _, _, _, _, rfl⟩, s1⟩
  · repeat' (first
      | refine St.h ?_
      | simp (disch := first | omega | (simp only [lnv]; omega)) only [wlk, ↓get_put', ↓reduceIte, seval]
      | (with_reducible (first | apply cd_split | apply gd_split)) <;> (intro hc; (try simp only [hcn] at hc); (try simp only [hc]); (try simp only [hcl] at hc); try omega))
    subst hQ
    refine ⟨.inr ⟨b2, ?_⟩, s1.trans s2⟩
    rintro q ⟨_, _, _, _, _, e⟩
    cases e; exact s1.next
theorem cloneI_ok {h : H} {v : V} {S : List Int} (hS : Kl h .i64 v S) (hl : S.length ≤ 100000) (hf : B.val h.floor ≤ B.val h.next) : FnOk Try.prog 27 [v] h fun y h' => ClI h h' y S ∧ Stay nowhere h h' := by
  have hS0 := hS
  rcases hS with ⟨rfl, e⟩ | ⟨id, gg, off, fin, cap, rfl, hh⟩
  · refine cloneI0_ok.mono fun y h' ⟨a, b⟩ => ?_
    rw [a, b]
    exact ⟨.inr ⟨by rw [e]; exact Buf.nil _ _ _, by rintro q ⟨_, _, _, _, _, e⟩; cases e⟩, Stay.refl _ _⟩
  · exact cloneI1_ok hS0 hl hf
theorem strip_ok {h : H} {v : V} {L : List Ent} (hL : Es h v L) (hw : SwN 4 v) (hl : L.length ≤ 100000) (hf : B.val h.floor ≤ B.val h.next) : FnOk Try.prog 30 [v] h fun y h' => Es h' y (stripE L) ∧ SwN 4 y ∧ h' = h := by
  refine fn_go c30 (by intro hb; cases hb) (by simp) (by simp) fun Q hQ => ?_
  simp only [slotsF, Nat.reduceAdd]
  repeat' (first
    | refine St.h ?_
    | simp (disch := first | omega | (simp only [lnv]; omega)) only [wlk, ↓get_put', ↓reduceIte, seval]
    | (with_reducible (first | apply cd_split | apply gd_split)) <;> (intro hc; (try simp only [hcn] at hc); (try simp only [hc]); (try simp only [hcl] at hc); try omega))
  refine Ok.lp (fun m t g => ∃ (u : V), m ≤ L.length ∧ h = g ∧ get 0 t = u ∧ Es h u (L.take m) ∧ SwN 4 u ∧ stripE (L.take m) = stripE L) L.length ?_ ?_
  · simp (disch := first | omega | (simp only [lnv]; omega)) only [wlk, ↓get_put', ↓reduceIte, seval]
    exact ⟨v, Nat.le_refl _, trivial, rfl, by rw [List.take_length]; exact hL, hw, by rw [List.take_length]⟩
  rintro I hI m t g ⟨u, hm, rfl, f0, hu, hwu, hst⟩
  have hlen : (L.take m).length = m := by rw [List.length_take]; omega
  have w1 : ((m : Int) - 1).toNat = m - 1 := by omega
  have w2 : ((m : Int) - 1) = ((m - 1 : Nat) : Int) ∨ m = 0 := by omega
  by_cases hm0 : 0 < m
  case neg =>
    obtain rfl : m = 0 := by omega
    repeat' (first
      | refine St.h ?_
      | simp (disch := first | omega | (simp only [lnv]; omega)) only [wlk, ↓get_put', ↓reduceIte, seval, f0, hu.ln, hlen]
      | (with_reducible (first | apply cd_split | apply gd_split)) <;> (intro hc; (try simp only [hcn] at hc); (try simp only [hc]); (try simp only [hcl] at hc); try omega))
    subst hQ
    refine ⟨?_, hwu, rfl⟩
    rw [← hst]; exact hu
  have w2 := w2.resolve_right (by omega)
  have hlt := take_ent (L := L) (i := m - 1) (by omega)
  rw [show m - 1 + 1 = m by omega] at hlt
  have hgd : (L.take m).getD (m - 1) default = L.getD (m - 1) default := by simp [List.getD, List.getElem?_take, show m - 1 < m by omega]
  cases hd : (L.getD (m - 1) default).del with
  | false =>
    repeat' (first
      | refine St.h ?_
      | simp (disch := first | omega | (simp only [lnv]; omega)) only [wlk, ↓get_put', ↓reduceIte, seval, f0, hu.ln, hu.ix, hu.l2, hlen, hgd, hd, w1]
      | (with_reducible (first | apply cd_split | apply gd_split)) <;> (intro hc; (try simp only [hcn] at hc); (try simp only [hc]); (try simp only [hcl] at hc); try omega))
    subst hQ
    rw [hlt, stripE_put hd, ← hlt] at hst
    exact ⟨by rw [← hst]; exact hu, hwu, rfl⟩
  | true =>
    obtain ⟨x, x1, x2, x3⟩ := Ss.hi (P := Try.prog) (kd := .i64) (k := m - 1) hu entC_len hwu (by omega)
    rw [List.take_take, Nat.min_eq_left (by omega)] at x1
    rw [hlt, stripE_del hd] at hst
    repeat' (first
      | refine St.h ?_
      | simp (disch := first | omega | (simp only [lnv]; omega)) only [wlk, ↓get_put', ↓reduceIte, seval, f0, hu.ln, hu.ix, hu.l2, hlen, hgd, hd, w1, w2, x3]
      | (with_reducible (first | apply cd_split | apply gd_split)) <;> (intro hc; (try simp only [hcn] at hc); (try simp only [hc]); (try simp only [hcl] at hc); try omega))
    exact lp_next hI (m - 1) (by omega) ⟨x, by omega, rfl, by simp (disch := first | omega | (simp only [lnv]; omega)) only [wlk, ↓get_put', ↓reduceIte, seval], x1, x2, hst⟩
/-- rows of one key each -/
theorem byKey_ok {h : H} {v : V} {L : List Ent} (hL : Es h v L) (hw : SwN 4 v) (hs : sortedE L = true) (hl : L.length ≤ 5000) (hf : B.val h.floor ≤ B.val h.next) : FnOk Try.prog 24 [v] h fun y h' => ∃ R ks, Bls h' y R ks ∧ Grp L R ∧ R.length ≤ L.length ∧ Stay nowhere h h' := by
  refine fn_go c24 (by intro hb; cases hb) (by simp) (by simp) fun Q hQ => ?_
  simp only [slotsF, Nat.reduceAdd]
  repeat' (first
    | refine St.h ?_
    | simp (disch := first | omega | (simp only [lnv]; omega)) only [wlk, ↓get_put', ↓reduceIte, seval, hL.ln]
    | (with_reducible (first | apply cd_split | apply gd_split)) <;> (intro hc; (try simp only [hcn] at hc); (try simp only [hc]); (try simp only [hcl] at hc); try omega))
  refine Ok.lp (fun m t g => ∃ (i fr : Nat) (u : V) (ks : List Bk), m = L.length - i ∧ i ≤ L.length ∧ fr ≤ i ∧ (i = L.length → fr = i) ∧ get 0 t = v ∧ get 3 t = u ∧ get 4 t = .i .i64 (fr : Int) ∧ get 7 t = .i .i64 (L.length : Int) ∧ get 8 t = .i .i64 (i : Int) ∧ Stay nowhere h g ∧ Buf g 23 1 u (ks.flatMap bkC) ∧ (∀ q, isOf u q → B.val h.next ≤ B.val q) ∧ (∀ k ∈ ks, Es h k.v k.l) ∧ ks.length ≤ fr ∧ Grp (L.take fr) (ks.map (·.l)) ∧ (∀ p, fr ≤ p → p ≤ i → p < L.length → (L.getD p default).key = (L.getD fr default).key) ∧ (∀ p q, p < fr → fr ≤ q → q < L.length → (L.getD p default).key ≠ (L.getD q default).key)) L.length ?_ ?_
  · simp (disch := first | omega | (simp only [lnv]; omega)) only [wlk, ↓get_put', ↓reduceIte, seval]
    refine ⟨0, 0, .l0, [], by omega, by omega, by omega, fun _ => rfl, ?_⟩
    refine ⟨?_, ?_, ?_, ?_, ?_, Stay.refl _ _, Buf.nil _ _ _, ?_, fun k hk => (by cases hk), Nat.le_refl _, ⟨rfl, fun g hg => (by cases hg), .nil⟩, fun p h1 h2 h3 => (by rw [show p = 0 by omega]), fun p q h1 => by omega⟩
    rotate_right
    · rintro i ⟨_, _, _, _, _, e⟩; cases e
    all_goals first | trivial | rfl
  rintro I hI m t g ⟨i, fr, u, ks, rfl, hi, hfr, hend, f0, f3, f4, f7, f8, st, bf, own, hes, hkl, G, hsm, hdf⟩
  have hfg := st.fl hf
  have hLg := hL.grow st
  by_cases hil : i < L.length
  case neg =>
    obtain rfl : i = L.length := by omega
    obtain rfl := hend rfl
    rw [List.take_length] at G
    repeat' (first
      | refine St.h ?_
      | simp (disch := first | omega | (simp only [lnv]; omega)) only [wlk, ↓get_put', ↓reduceIte, seval, f0, f3, f4, f7, f8]
      | (with_reducible (first | apply cd_split | apply gd_split)) <;> (intro hc; (try simp only [hcn] at hc); (try simp only [hc]); (try simp only [hcl] at hc); try omega))
    subst hQ
    exact ⟨ks.map (·.l), ks, ⟨Ss.buf bf rfl bkC_len (by omega), rfl, fun k hk => (hes k hk).grow st⟩, G, by rw [List.length_map]; exact hkl, st⟩
  have e1 : (i : Int) + 1 = ((i + 1 : Nat) : Int) := by omega
  have hfm := fm_len bkC_len ks
  obtain ⟨x, x1, x2, x3⟩ := Ss.mid (P := Try.prog) (kd := .i64) (kd' := .i64) hL entC_len hw (j := fr) (k := i + 1) (by omega) hil
  have close : (i + 1 = L.length ∨ (L.getD (i + 1) default).key ≠ (L.getD i default).key) →
      Grp (L.take (i + 1)) ((ks ++ [(⟨x, (L.take (i + 1)).drop fr⟩ : Bk)]).map (·.l)) ∧ (∀ p, i + 1 ≤ p → p ≤ i + 1 → p < L.length → (L.getD p default).key = (L.getD (i + 1) default).key) ∧ (∀ p q, p < i + 1 → i + 1 ≤ q → q < L.length → (L.getD p default).key ≠ (L.getD q default).key) := fun hc => by
    have hin : ∀ a, a ∈ (L.take (i + 1)).drop fr → ∃ p, fr ≤ p ∧ p ≤ i ∧ L.getD p default = a := fun a ha => by
      obtain ⟨q, hq, rfl⟩ := List.getElem_of_mem ha
      rw [List.length_drop, List.length_take] at hq
      refine ⟨fr + q, by omega, by omega, ?_⟩
      rw [List.getElem_drop, List.getElem_take, List.getD_eq_getElem?_getD, List.getElem?_eq_getElem (by omega)]; rfl
    refine ⟨⟨?_, fun g hg a ha b hb => ?_, ?_⟩, fun p h1 h2 h3 => by rw [show p = i + 1 by omega], fun p q h1 h2 h3 => ?_⟩
    · rw [List.map_append, List.flatten_append, G.flat]
      have : L.take fr = (L.take (i + 1)).take fr := by rw [List.take_take, Nat.min_eq_left (by omega)]
      show L.take fr ++ [(L.take (i + 1)).drop fr].flatten = _
      rw [List.flatten_cons, List.flatten_nil, List.append_nil, this, List.take_append_drop]
    · rw [List.map_append] at hg
      rcases List.mem_append.1 hg with hg | hg
      · exact G.same g hg a ha b hb
      · have : g = (L.take (i + 1)).drop fr := List.mem_singleton.1 hg
        subst this
        obtain ⟨p, p1, p2, rfl⟩ := hin a ha
        obtain ⟨q, q1, q2, rfl⟩ := hin b hb
        rw [hsm p p1 p2 (by omega), hsm q q1 q2 (by omega)]
    · rw [List.map_append, List.pairwise_append]
      refine ⟨G.pw, List.pairwise_singleton _ _, fun g hg k hk a ha b hb => ?_⟩
      have : k = (L.take (i + 1)).drop fr := List.mem_singleton.1 hk
      subst this
      obtain ⟨q, q1, q2, rfl⟩ := hin b hb
      have ha2 : a ∈ L.take fr := by rw [← G.flat, List.mem_flatten]; exact ⟨g, hg, ha⟩
      obtain ⟨p, hp, rfl⟩ := List.getElem_of_mem ha2
      rw [List.length_take] at hp
      have := hdf p q (by omega) q1 (by omega)
      rwa [List.getD_eq_getElem?_getD, List.getElem?_eq_getElem (show p < L.length by omega), Option.getD_some, ← List.getElem_take (i := p) (j := fr) (h := by rw [List.length_take]; omega)] at this
    · rcases Nat.lt_or_ge p fr with hp | hp
      · exact hdf p q hp (by omega) h3
      · intro e
        rcases hc with hc | hc
        · omega
        · have a1 := hsm p hp (by omega) (by omega)
          have a2 := hsm i hfr (Nat.le_refl _) hil
          have l1 := pw_at hs (show i < i + 1 by omega) (by omega)
          by_cases eq : q = i + 1
          · rw [← eq] at hc
            exact hc (e.symm.trans (a1.trans a2.symm))
          · have l2 := pw_at hs (show i + 1 < q by omega) h3
            exact hc (key_mid l1 l2 ((a2.trans a1.symm).trans e))
  have hks : ∀ k ∈ ks ++ [(⟨x, (L.take (i + 1)).drop fr⟩ : Bk)], Es h k.v k.l := fun k hk => by
    rcases List.mem_append.1 hk with hk | hk
    · exact hes k hk
    · rw [List.mem_singleton.1 hk]; exact x1
  have hcs : (((i : Int) + 1 = (L.length : Int)) = True ∧ i + 1 = L.length ∧ (2 = 3) = False) ∨ (((i : Int) + 1 = (L.length : Int)) = False ∧ i + 1 < L.length ∧ decide ((L.getD (i + 1) default).key = (L.getD i default).key) = false) ∨ (((i : Int) + 1 = (L.length : Int)) = False ∧ i + 1 < L.length ∧ decide ((L.getD (i + 1) default).key = (L.getD i default).key) = true) := by
    by_cases c : i + 1 = L.length
    · exact .inl ⟨eq_true (by omega), c, eq_false (by decide)⟩
    · refine .inr ?_
      have c1 : ((i : Int) + 1 = (L.length : Int)) = False := eq_false (by omega)
      by_cases c2 : (L.getD (i + 1) default).key = (L.getD i default).key
      · exact .inr ⟨c1, by omega, decide_eq_true c2⟩
      · exact .inl ⟨c1, by omega, decide_eq_false c2⟩
  have w1 : ((i : Int) + 1).toNat = i + 1 := by omega
  rw [← or_assoc] at hcs
  rcases hcs with hcs | ⟨d1, d2, d3⟩
  case inr =>
    repeat' (first
      | refine St.h ?_
      | simp (disch := first | omega | (simp only [lnv]; omega)) only [wlk, ↓get_put', ↓reduceIte, seval, f0, f3, f4, f7, f8, hL.ln, hL.ix, hLg.l0, d1, d3, w1, Int.toNat_natCast]
      | (with_reducible (first | apply cd_split | apply gd_split)) <;> (intro hc; (try simp only [hcn] at hc); (try simp only [hc]); (try simp only [hcl] at hc); try omega))
    refine lp_next hI (L.length - (i + 1)) (by omega) ⟨i + 1, fr, u, ks, rfl, by omega, by omega, fun h => by omega, by simp (disch := first | omega | (simp only [lnv]; omega)) only [wlk, ↓get_put', ↓reduceIte, seval, f0], by simp (disch := first | omega | (simp only [lnv]; omega)) only [wlk, ↓get_put', ↓reduceIte, seval, f3], by simp (disch := first | omega | (simp only [lnv]; omega)) only [wlk, ↓get_put', ↓reduceIte, seval, f4], by simp (disch := first | omega | (simp only [lnv]; omega)) only [wlk, ↓get_put', ↓reduceIte, seval, f7], by simp (disch := first | omega | (simp only [lnv]; omega)) only [wlk, ↓get_put', ↓reduceIte, seval, f8]; rfl, st, bf, own, hes, hkl, G, fun p h1 h2 h3 => ?_, hdf⟩
    by_cases e : p = i + 1
    · rw [e, of_decide_eq_true d3]; exact hsm i hfr (Nat.le_refl _) hil
    · exact hsm p h1 (by omega) h3
  have hclose := close (by
    rcases hcs with ⟨_, d, _⟩ | ⟨_, _, d⟩
    · exact .inl d
    · exact .inr (of_decide_eq_false d))
  rcases hcs with ⟨d1, d2, d3⟩ | ⟨d1, d2, d3⟩
  all_goals
    repeat' (first
      | refine St.h ?_
      | simp (disch := first | omega | (simp only [lnv]; omega)) only [wlk, ↓get_put', ↓reduceIte, seval, f0, f3, f4, f7, f8, hL.ln, hL.ix, hLg.l0, d1, d3, w1, e1, x3, fp_sw x2, Int.toNat_natCast]
      | (with_reducible (first | apply cd_split | apply gd_split)) <;> (intro hc; (try simp only [hcn] at hc); (try simp only [hc]); (try simp only [hcl] at hc); try omega))
    refine AL.own (by simp) hfg fun g4 t4 _ o4 => ?_
    have hfg4 := t4.fl hfg
    have bf4 := bf.grow t4
    repeat' (first
      | refine St.h ?_
      | simp (disch := first | omega | (simp only [lnv]; omega)) only [wlk, ↓get_put', ↓reduceIte, seval, f0, f3, f4, f7, f8]
      | (with_reducible (first | apply cd_split | apply gd_split)) <;> (intro hc; (try simp only [hcn] at hc); (try simp only [hc]); (try simp only [hcl] at hc); try omega))
    refine AP.buf (vs := [x]) (cnt := 1) bf4 (new_row o4.row rfl (Nat.le_refl _) (by omega) (by show 1 ≤ 1; omega)) hfg4 (by omega) rfl (one_sw x2) (by rw [hfm]; simp; omega) fun u' g5 b5 t5 ho tp => ?_
    repeat' (first
      | refine St.h ?_
      | simp (disch := first | omega | (simp only [lnv]; omega)) only [wlk, ↓get_put', ↓reduceIte, seval, f0, f3, f4, f7, f8]
      | (with_reducible (first | apply cd_split | apply gd_split)) <;> (intro hc; (try simp only [hcn] at hc); (try simp only [hc]); (try simp only [hcl] at hc); try omega))
    have s5 : Stay nowhere h g5 := (st.trans t4).past' t5 fun q hq => own q hq
    refine lp_next hI (L.length - (i + 1)) (by omega) ⟨i + 1, i + 1, u', ks ++ [⟨x, (L.take (i + 1)).drop fr⟩], rfl, by omega, by omega, fun h => rfl, by simp (disch := first | omega | (simp only [lnv]; omega)) only [wlk, ↓get_put', ↓reduceIte, seval, f0], by simp (disch := first | omega | (simp only [lnv]; omega)) only [wlk, ↓get_put', ↓reduceIte, seval], by simp (disch := first | omega | (simp only [lnv]; omega)) only [wlk, ↓get_put', ↓reduceIte, seval]; rfl, by simp (disch := first | omega | (simp only [lnv]; omega)) only [wlk, ↓get_put', ↓reduceIte, seval, f7], by simp (disch := first | omega | (simp only [lnv]; omega)) only [wlk, ↓get_put', ↓reduceIte, seval, f8]; rfl, s5, by rw [List.flatMap_append]; simpa [bkC] using b5, fun q hq => ?_, hks, by simp; omega, hclose.1, hclose.2.1, hclose.2.2⟩
    rcases ho q hq with h1 | h1
    · exact own q h1
    · have := st.next; have := t4.next; omega
end Go.Proofs.Ytnjgoggnhdpnoaa

set_option maxRecDepth 100000
set_option maxHeartbeats 8000000
set_option linter.all false
namespace Go.Proofs.Ytnjgoggnhdpnoaa
open Go Go.Ev
theorem seenBy_ok {h : H} {v u : V} {G : List Ent} {S T : List Int} (hL : Es h v G) (hT : Lst h u (T.map (V.i .i64))) (srt : SrtI T) (hm : ∀ n, n ∈ T ↔ n ∈ S ∨ n = 1000000) (ha : G.all isE = true) (hs : sortedE G = true) (hk : ∀ a ∈ G, ∀ b ∈ G, a.key = b.key) (hl : G.length ≤ 5000) (hTl : T.length ≤ 1000) (hf : B.val h.floor ≤ B.val h.next) : FnOk Try.prog 29 [v, u] h fun y h' =>
    Es h' y (G.filter (wantP G S)) ∧ SwN 4 y ∧ Stay nowhere h h' := by
  refine fn_go c29 (by intro hb; cases hb) (by simp) (by simp) fun Q hQ => ?_
  simp only [slotsF, Nat.reduceAdd]
  repeat' (first
    | refine St.h ?_
    | simp (disch := first | omega | (simp only [lnv]; omega)) only [wlk, ↓get_put', ↓reduceIte, seval, hL.ln]
    | (with_reducible (first | apply cd_split | apply gd_split)) <;> (intro hc; (try simp only [hcn] at hc); (try simp only [hc]); (try simp only [hcl] at hc); try omega))
  refine Ok.lp (fun m t g => ∃ (i : Nat) (w : V), m = G.length - i ∧ i ≤ G.length ∧ get 0 t = v ∧ get 1 t = u ∧ get 5 t = w ∧ get 10 t = v ∧ get 11 t = .i .i64 (G.length : Int) ∧ get 12 t = .i .i64 (i : Int) ∧ Stay nowhere h g ∧ Buf g 39 4 w (((G.take i).filter (wantP G S)).flatMap entC) ∧ (∀ q, isOf w q → B.val h.next ≤ B.val q)) G.length ?_ ?_
  · simp (disch := first | omega | (simp only [lnv]; omega)) only [wlk, ↓get_put', ↓reduceIte, seval]
    refine ⟨0, .l0, by omega, by omega, ?_⟩
    refine ⟨?_, ?_, ?_, ?_, ?_, ?_, Stay.refl _ _, Buf.nil _ _ _, ?_⟩
    rotate_right
    · rintro i ⟨_, _, _, _, _, e⟩; cases e
    all_goals first | trivial | rfl
  rintro I hI m t g ⟨i, w, rfl, hi, f0, f1, f5, f10, f11, f12, st, bf, own⟩
  have hfg := st.fl hf
  have hLg := hL.grow st
  by_cases hil : i < G.length
  case neg =>
    obtain rfl : i = G.length := by omega
    rw [List.take_length] at bf
    repeat' (first
      | refine St.h ?_
      | simp (disch := first | omega | (simp only [lnv]; omega)) only [wlk, ↓get_put', ↓reduceIte, seval, f0, f1, f5, f10, f11, f12]
      | (with_reducible (first | apply cd_split | apply gd_split)) <;> (intro hc; (try simp only [hcn] at hc); (try simp only [hc]); (try simp only [hcl] at hc); try omega))
    subst hQ
    exact ⟨Ss.buf bf rfl entC_len (by omega), swn_bufE bf, st⟩
  have htf := filter_takeE (q := wantP G S) hil
  have hisE := isE_iff.1 (List.all_eq_true.1 ha _ (getD_memE hil))
  have hfl : ((G.take i).filter (wantP G S)).length ≤ G.length := by
    have h1 := List.length_filter_le (wantP G S) (G.take i)
    have h2 : (G.take i).length ≤ G.length := by rw [List.length_take]; omega
    omega
  have hfm := fm_len entC_len ((G.take i).filter (wantP G S))
  repeat' (first
    | refine St.h ?_
    | simp (disch := first | omega | (simp only [lnv]; omega)) only [wlk, ↓get_put', ↓reduceIte, seval, f0, f1, f5, f10, f11, f12, hL.ix, hLg.la, Int.toNat_natCast]
    | (with_reducible (first | apply cd_split | apply gd_split)) <;> (intro hc; (try simp only [hcn] at hc); (try simp only [hc]); (try simp only [hcl] at hc); try omega))
  refine AL.own (by simp) hfg fun g1 t1 _ o1 => ?_
  have hfg1 := t1.fl hfg
  repeat' (first
    | refine St.h ?_
    | simp (disch := first | omega | (simp only [lnv]; omega)) only [wlk, ↓get_put', ↓reduceIte, seval, f0, f1, f5, f10, f11, f12, hL.ix, hLg.la, Int.toNat_natCast]
    | (with_reducible (first | apply cd_split | apply gd_split)) <;> (intro hc; (try simp only [hcn] at hc); (try simp only [hc]); (try simp only [hcl] at hc); try omega))
  refine ST.all o1 rfl rfl (by simp) (by simp) fun g2 o2 t2 => ?_
  have t12 : Stay nowhere g g2 := t1.past' t2 fun q hq => by rw [hq]; exact Nat.le_refl _
  have st2 := st.trans t12
  have hfg2 := t12.fl hfg
  have bf2 := bf.grow t12
  have hL2 := hL.grow st2
  have hT2 : Lst g2 u (T.map (V.i .i64)) := hT.grow st2
  have hTr : Lst g2 u (rI (fun j => T.getD j 0) T.length) := by rw [← rI_of]; exact hT2
  repeat' (first
    | refine St.h ?_
    | simp (disch := first | omega | (simp only [lnv]; omega)) only [wlk, ↓get_put', ↓reduceIte, seval, f0, f1, f5, f10, f11, f12, o2.row.l1]
    | (with_reducible (first | apply cd_split | apply gd_split)) <;> (intro hc; (try simp only [hcn] at hc); (try simp only [hc]); (try simp only [hcl] at hc); try omega))
  refine CL.mk (bsearch_ok (x := (G.getD i default).seq) hT2 hTl) ?_
  rintro _ _ ⟨k, bb, rfl, k1, k2, k3, rfl⟩
  have hkl : k < T.length := by
    refine Classical.byContradiction fun hh => ?_
    obtain rfl : k = T.length := by omega
    obtain ⟨j, hj, e⟩ := List.getElem_of_mem ((hm 1000000).2 (.inr rfl))
    have e : T.getD j 0 = 1000000 := by rw [List.getD_eq_getElem?_getD, List.getElem?_eq_getElem hj]; simpa using e
    have h1 := k2 (by omega)
    have h2 := srt j (T.length - 1) (by omega) (by omega)
    omega
  have k3 := k3 hkl
  have w1 : ((i : Int) - 1).toNat = i - 1 := by omega
  have hcs : (((i : Int) = 0) = True ∧ i = 0 ∧ (2 = 3) = False ∧ wantP G S (G.getD i default) = true) ∨ (((i : Int) = 0) = False ∧ 0 < i ∧ (T.getD k 0 < (G.getD (i - 1) default).seq) = True ∧ wantP G S (G.getD i default) = true) ∨ (((i : Int) = 0) = False ∧ 0 < i ∧ (T.getD k 0 < (G.getD (i - 1) default).seq) = False ∧ wantP G S (G.getD i default) = false) := by
    by_cases c : i = 0
    · exact .inl ⟨eq_true (by omega), c, eq_false (by decide), by subst c; exact want_first ha hs hil⟩
    · refine .inr ?_
      have c1 : ((i : Int) = 0) = False := eq_false (by omega)
      have hw := want_look ha hs hk hil (by omega) srt hm hkl k2 k3
      by_cases c2 : T.getD k 0 < (G.getD (i - 1) default).seq
      · exact .inl ⟨c1, by omega, eq_true c2, by rw [hw]; exact decide_eq_true c2⟩
      · exact .inr ⟨c1, by omega, eq_false c2, by rw [hw]; exact decide_eq_false c2⟩
  rw [← or_assoc] at hcs
  rcases hcs with hcs | ⟨d1, d2, d3, d4⟩
  case inr =>
    rw [d4] at htf
    have htf : (G.take (i + 1)).filter (wantP G S) = (G.take i).filter (wantP G S) := by rw [htf]; simp
    repeat' (first
      | refine St.h ?_
      | simp (disch := first | omega | (simp only [lnv]; omega)) only [wlk, ↓get_put', ↓reduceIte, seval, f0, f1, f5, f10, f11, f12, d1, d3, rI_ix hTr, rI_ld hTr, hL2.ix, hL2.l1, w1, Int.toNat_natCast]
      | (with_reducible (first | apply cd_split | apply gd_split)) <;> (intro hc; (try simp only [hcn] at hc); (try simp only [hc]); (try simp only [hcl] at hc); try omega))
    exact lp_next hI (G.length - (i + 1)) (by omega) ⟨i + 1, w, rfl, by omega, by simp (disch := first | omega | (simp only [lnv]; omega)) only [wlk, ↓get_put', ↓reduceIte, seval, f0], by simp (disch := first | omega | (simp only [lnv]; omega)) only [wlk, ↓get_put', ↓reduceIte, seval, f1], by simp (disch := first | omega | (simp only [lnv]; omega)) only [wlk, ↓get_put', ↓reduceIte, seval, f5], by simp (disch := first | omega | (simp only [lnv]; omega)) only [wlk, ↓get_put', ↓reduceIte, seval, f10], by simp (disch := first | omega | (simp only [lnv]; omega)) only [wlk, ↓get_put', ↓reduceIte, seval, f11], by simp (disch := first | omega | (simp only [lnv]; omega)) only [wlk, ↓get_put', ↓reduceIte, seval, f12]; rfl, st2, by rw [htf]; exact bf2, own⟩
  have d4 : wantP G S (G.getD i default) = true := by
    rcases hcs with ⟨_, _, _, d⟩ | ⟨_, _, _, d⟩ <;> exact d
  rw [d4, if_pos rfl] at htf
  rcases hcs with ⟨d1, d2, d3, _⟩ | ⟨d1, d2, d3, _⟩
  all_goals
    repeat' (first
      | refine St.h ?_
      | simp (disch := first | omega | (simp only [lnv]; omega)) only [wlk, ↓get_put', ↓reduceIte, seval, f0, f1, f5, f10, f11, f12, d1, d3, rI_ix hTr, rI_ld hTr, hL2.ix, hL2.l1, o2.row.ln, w1, Int.toNat_natCast]
      | (with_reducible (first | apply cd_split | apply gd_split)) <;> (intro hc; (try simp only [hcn] at hc); (try simp only [hc]); (try simp only [hcl] at hc); try omega))
    refine AL.own (by simp) hfg2 fun g4 t4 _ o4 => ?_
    have hfg4 := t4.fl hfg2
    have bf4 := bf2.grow t4
    repeat' (first
      | refine St.h ?_
      | simp (disch := first | omega | (simp only [lnv]; omega)) only [wlk, ↓get_put', ↓reduceIte, seval, f0, f1, f5, f10, f11, f12]
      | (with_reducible (first | apply cd_split | apply gd_split)) <;> (intro hc; (try simp only [hcn] at hc); (try simp only [hc]); (try simp only [hcl] at hc); try omega))
    refine AP.buf (vs := entC (G.getD i default)) (cnt := 1) bf4 (new_row o4.row rfl (Nat.le_refl _) (by omega) (by show 4 ≤ 4; omega)) hfg4 (by omega) rfl rfl (by rw [hfm, entC_len]; omega) fun u' g5 b5 t5 ho tp => ?_
    have s5 : Stay nowhere h g5 := (st2.trans t4).past' t5 fun q hq => own q hq
    repeat' (first
      | refine St.h ?_
      | simp (disch := first | omega | (simp only [lnv]; omega)) only [wlk, ↓get_put', ↓reduceIte, seval, f0, f1, f5, f10, f11, f12]
      | (with_reducible (first | apply cd_split | apply gd_split)) <;> (intro hc; (try simp only [hcn] at hc); (try simp only [hc]); (try simp only [hcl] at hc); try omega))
    refine lp_next hI (G.length - (i + 1)) (by omega) ⟨i + 1, u', rfl, by omega, by simp (disch := first | omega | (simp only [lnv]; omega)) only [wlk, ↓get_put', ↓reduceIte, seval, f0], by simp (disch := first | omega | (simp only [lnv]; omega)) only [wlk, ↓get_put', ↓reduceIte, seval, f1], by simp (disch := first | omega | (simp only [lnv]; omega)) only [wlk, ↓get_put', ↓reduceIte, seval], by simp (disch := first | omega | (simp only [lnv]; omega)) only [wlk, ↓get_put', ↓reduceIte, seval, f10], by simp (disch := first | omega | (simp only [lnv]; omega)) only [wlk, ↓get_put', ↓reduceIte, seval, f11], by simp (disch := first | omega | (simp only [lnv]; omega)) only [wlk, ↓get_put', ↓reduceIte, seval, f12]; rfl, s5, by rw [htf, List.flatMap_append]; simpa using b5, fun q hq => ?_⟩
    rcases ho q hq with h1 | h1
    · exact own q h1
    · have := st2.next; have := t4.next; omega
/-- the first one of what is left -/
theorem la_zero {h : H} {w : V} {A : List Ent} {k : Nat} (hw : Es h w (A.drop k)) (hk : k < A.length) (N : Nx) : LN Try.prog (lid w) (lg w) (loff w) (lfin w) 4 h N = N.go Try.prog (.a [sv (A.getD k default).key, .i .i64 (A.getD k default).seq, .b (A.getD k default).del, sv (A.getD k default).val]) h := by
  have := hw.la (P := Try.prog) (N := N) (i := 0) (by rw [List.length_drop]; omega)
  rw [Nat.zero_mul, Nat.add_zero, show (A.drop k).getD 0 default = A.getD k default by simp [List.getD]] at this
  exact this
/-- two rows joined -/
theorem joinTwo_ok {h : H} {v u : V} {A C : List Ent} (hA : Es h v A) (hC : Es h u C) (hwA : SwN 4 v) (sA : sortedE A = true) (sC : sortedE C = true) (hl : A.length + C.length ≤ 10000) (hf : B.val h.floor ≤ B.val h.next) : FnOk Try.prog 35 [v, u] h fun y h' =>
    Es h' y (addsE A C) ∧ SwN 4 y ∧ Stay nowhere h h' := by
  have e0 : ((A.length : Int) + (C.length : Int)).toNat = A.length + C.length := by omega
  refine fn_go c35 (by intro hb; cases hb) (by simp) (by simp) fun Q hQ => ?_
  simp only [slotsF, Nat.reduceAdd]
  repeat' (first
    | refine St.h ?_
    | simp (disch := first | omega | (simp only [lnv]; omega)) only [wlk, ↓get_put', ↓reduceIte, seval, hA.ln, hC.ln, e0]
    | (with_reducible (first | apply cd_split | apply gd_split)) <;> (intro hc; (try simp only [hcn] at hc); (try simp only [hc]); (try simp only [hcl] at hc); try omega))
  refine AL.own (by rw [repL_len]; simp; omega) hf fun h1 s1 n1 o1 => ?_
  have hf1 := s1.fl hf
  have o1 := o1.none
  repeat' (first
    | refine St.h ?_
    | simp (disch := first | omega | (simp only [lnv]; omega)) only [wlk, ↓get_put', ↓reduceIte, seval, hC.ln]
    | (with_reducible (first | apply cd_split | apply gd_split)) <;> (intro hc; (try simp only [hcn] at hc); (try simp only [hc]); (try simp only [hcl] at hc); try omega))
  refine Ok.lp (fun m t g => ∃ (i k : Nat) (w : V) (J : List Ent), m = C.length - i ∧ i ≤ C.length ∧ k ≤ A.length ∧ J.length ≤ k + i ∧ get 0 t = w ∧ get 5 t = .l h.next 0 0 J.length ((A.length + C.length) * 4) (some (A.length + C.length)) ∧ get 15 t = u ∧ get 16 t = .i .i64 (C.length : Int) ∧ get 17 t = .i .i64 (i : Int) ∧ Stay nowhere h g ∧ Ev.Own g h.next (J.flatMap entC) ∧ Es h w (A.drop k) ∧ SwN 4 w ∧ J ++ A.drop k = addsE A (C.take i) ∧ (i < C.length → ∀ a ∈ J, lessE a (C.getD i default) = true)) C.length ?_ ?_
  · simp (disch := first | omega | (simp only [lnv]; omega)) only [wlk, ↓get_put', ↓reduceIte, seval]
    refine ⟨0, 0, v, [], by omega, by omega, by omega, by simp, ?_⟩
    refine ⟨?_, ?_, ?_, ?_, ?_, s1, o1, hA, hwA, rfl, fun _ a ha => by cases ha⟩
    all_goals first | trivial | rfl
  rintro I hI m t g ⟨i, k, w, J, rfl, hi, hk, hJ, f0, f5, f15, f16, f17, st, og, hw, sw, hadd, hless⟩
  have hfg := st.fl hf
  have hCg := hC.grow st
  have hwg := hw.grow st
  have hdl : (A.drop k).length = A.length - k := List.length_drop
  have hJm := fm_len entC_len J
  by_cases hil : i < C.length
  case neg =>
    obtain rfl : i = C.length := by omega
    rw [List.take_length] at hadd
    repeat' (first
      | refine St.h ?_
      | simp (disch := first | omega | (simp only [lnv]; omega)) only [wlk, ↓get_put', ↓reduceIte, seval, f0, f5, f15, f16, f17]
      | (with_reducible (first | apply cd_split | apply gd_split)) <;> (intro hc; (try simp only [hcn] at hc); (try simp only [hc]); (try simp only [hcl] at hc); try omega))
    refine AP.made (xs := J.flatMap entC) og hJm (new_ss hwg entC_len (by omega)) (fm_len entC_len _) (allOne_entM _) (by omega) (by omega) (by omega) fun g2 o2 t2 => ?_
    repeat' (first
      | refine St.h ?_
      | simp (disch := first | omega | (simp only [lnv]; omega)) only [wlk, ↓get_put', ↓reduceIte, seval]
      | (with_reducible (first | apply cd_split | apply gd_split)) <;> (intro hc; (try simp only [hcn] at hc); (try simp only [hc]); (try simp only [hcl] at hc); try omega))
    subst hQ
    rw [← List.flatMap_append, hadd] at o2
    have hlen : J.length + (A.drop k).length = (addsE A C).length := by rw [← hadd, List.length_append]
    refine ⟨Ss.lit o2 rfl entC_len hlen (Nat.mul_le_mul_right 4 (by rw [← hlen, hdl]; omega)), .inr ⟨_, _, _, _, _, _, rfl, by rw [hdl]; omega, fun h => by omega⟩, st.past' t2 fun q hq => by rw [hq]; exact Nat.le_refl _⟩
  have hless := hless hil
  repeat' (first
    | refine St.h ?_
    | simp (disch := first | omega | (simp only [lnv]; omega)) only [wlk, ↓get_put', ↓reduceIte, seval, f0, f5, f15, f16, f17, hC.ix, hCg.la, Int.toNat_natCast]
    | (with_reducible (first | apply cd_split | apply gd_split)) <;> (intro hc; (try simp only [hcn] at hc); (try simp only [hc]); (try simp only [hcl] at hc); try omega))
  refine AL.own (by simp) hfg fun g1 t1 _ oe => ?_
  have hfg1 := t1.fl hfg
  have hcid : g.next ≠ h.next := fun e => by have := own_lt' og; rw [e] at this; omega
  repeat' (first
    | refine St.h ?_
    | simp (disch := first | omega | (simp only [lnv]; omega)) only [wlk, ↓get_put', ↓reduceIte, seval, f0, f5, f15, f16, f17, hC.ix, hCg.la, Int.toNat_natCast]
    | (with_reducible (first | apply cd_split | apply gd_split)) <;> (intro hc; (try simp only [hcn] at hc); (try simp only [hc]); (try simp only [hcl] at hc); try omega))
  refine ST.all oe rfl rfl (by simp) (by simp) fun g2 oe t2 => ?_
  have t12 : Stay nowhere g g2 := t1.past' t2 fun q hq => by rw [hq]; exact Nat.le_refl _
  have st2 := st.trans t12
  have og2 := og.stay t12 fun h => h
  generalize hidn : g.next = idn at *
  repeat' (first
    | refine St.h ?_
    | simp (disch := first | omega | (simp only [lnv]; omega)) only [wlk, ↓get_put', ↓reduceIte, seval, f0, f5, f15, f16, f17]
    | (with_reducible (first | apply cd_split | apply gd_split)) <;> (intro hc; (try simp only [hcn] at hc); (try simp only [hc]); (try simp only [hcl] at hc); try omega))
  refine Ok.lp (fun m t g => ∃ (k : Nat) (w : V) (J : List Ent), m = A.length - k ∧ k ≤ A.length ∧ J.length ≤ k + i ∧ get 0 t = w ∧ get 5 t = .l h.next 0 0 J.length ((A.length + C.length) * 4) (some (A.length + C.length)) ∧ get 7 t = .p idn 0 0 4 ∧ get 15 t = u ∧ get 16 t = .i .i64 (C.length : Int) ∧ get 17 t = .i .i64 (i : Int) ∧ Stay nowhere h g ∧ Ev.Own g h.next (J.flatMap entC) ∧ Ev.Own g idn [sv (C.getD i default).key, .i .i64 (C.getD i default).seq, .b (C.getD i default).del, sv (C.getD i default).val] ∧ Es h w (A.drop k) ∧ SwN 4 w ∧ J ++ A.drop k = addsE A (C.take i) ∧ (∀ a ∈ J, lessE a (C.getD i default) = true)) (A.length - k) ?_ ?_
  · simp (disch := first | omega | (simp only [lnv]; omega)) only [wlk, ↓get_put', ↓reduceIte, seval, f0, f5, f15, f16, f17]
    refine ⟨k, w, J, rfl, hk, hJ, ?_⟩
    refine ⟨?_, ?_, ?_, ?_, ?_, ?_, st2, og2, oe, hw, sw, hadd, hless⟩
    all_goals first | trivial | rfl
  rintro I2 hI2 m2 t3 g3 ⟨k, w, J, rfl, hk, hJ, f0, f5, f7, f15, f16, f17, st, og, oe, hw, sw, hadd, hless⟩
  have hfg := st.fl hf
  have hwg := hw.grow st
  have hdl : (A.drop k).length = A.length - k := List.length_drop
  have hJm := fm_len entC_len J
  have htk : addsE A (C.take (i + 1)) = addE (addsE A (C.take i)) (C.getD i default) := by rw [take_ent hil, addsE_snoc]
  have nxt : i + 1 < C.length → lessE (C.getD i default) (C.getD (i + 1) default) = true := fun h => pw_at sC (by omega) h
  have hsd : sortedE (A.drop k) = true := sorted_drop sA k
  -- behind the inner loop: the entry itself
  have hcs : ((0 < (A.drop k).length) = False ∧ k = A.length ∧ A.drop k = []) ∨ ((0 < (A.drop k).length) = True ∧ k < A.length ∧ lessE (C.getD i default) (A.getD k default) = true) ∨ ((0 < (A.drop k).length) = True ∧ k < A.length ∧ lessE (C.getD i default) (A.getD k default) = false) := by
    by_cases c : k < A.length
    · refine .inr ?_
      have c1 : (0 < (A.drop k).length) = True := eq_true (by omega)
      cases c2 : lessE (C.getD i default) (A.getD k default) with
      | true => exact .inl ⟨c1, c, rfl⟩
      | false => exact .inr ⟨c1, c, rfl⟩
    · exact .inl ⟨eq_false (by omega), by omega, List.drop_eq_nil_of_le (by omega)⟩
  have hfmE : ∀ x : Ent, [sv x.key, V.i .i64 x.seq, .b x.del, sv x.val] = entC x := fun _ => rfl
  rcases hcs with ⟨d1, d2, d3⟩ | ⟨d1, d2, d3⟩ | ⟨d1, d2, d3⟩
  · have hnew := jn_new hless hsd (.inl d3)
    rw [hadd, ← htk, d3] at hnew
    have hz : (A.drop k).length = 0 := by rw [d3]; rfl
    repeat' (first
      | refine St.h ?_
      | simp (disch := first | omega | (simp only [lnv]; omega)) only [wlk, ↓get_put', ↓reduceIte, seval, f0, f5, f7, f15, f16, f17, hwg.ln, hz, oe.row.ln]
      | (with_reducible (first | apply cd_split | apply gd_split)) <;> (intro hc; (try simp only [hcn] at hc); (try simp only [hc]); (try simp only [hcl] at hc); try omega))
    refine AL.own (by simp) hfg fun g4 t4 _ o4 => ?_
    have hfg4 := t4.fl hfg
    have og4 := og.stay t4 fun h => h
    repeat' (first
      | refine St.h ?_
      | simp (disch := first | omega | (simp only [lnv]; omega)) only [wlk, ↓get_put', ↓reduceIte, seval, f0, f5, f7, f15, f16, f17]
      | (with_reducible (first | apply cd_split | apply gd_split)) <;> (intro hc; (try simp only [hcn] at hc); (try simp only [hc]); (try simp only [hcl] at hc); try omega))
    refine AP.made (vs := entC (C.getD i default)) (cnt := 1) og4 hJm (new_row o4.row rfl (Nat.le_refl _) (by omega) (by show 4 ≤ 4; omega)) rfl rfl (by omega) (by omega) (by omega) fun g5 o5 t5 => ?_
    have st5 := (st.trans t4).past' t5 fun q hq => by rw [hq]; exact Nat.le_refl _
    repeat' (first
      | refine St.h ?_
      | simp (disch := first | omega | (simp only [lnv]; omega)) only [wlk, ↓get_put', ↓reduceIte, seval, f0, f5, f7, f15, f16, f17]
      | (with_reducible (first | apply cd_split | apply gd_split)) <;> (intro hc; (try simp only [hcn] at hc); (try simp only [hc]); (try simp only [hcl] at hc); try omega))
    refine lp_next hI (C.length - (i + 1)) (by omega) ⟨i + 1, k, w, J ++ [C.getD i default], rfl, by omega, hk, by simp; omega, by simp (disch := first | omega | (simp only [lnv]; omega)) only [wlk, ↓get_put', ↓reduceIte, seval, f0], by simp (disch := first | omega | (simp only [lnv]; omega)) only [wlk, ↓get_put', ↓reduceIte, seval]; simp, by simp (disch := first | omega | (simp only [lnv]; omega)) only [wlk, ↓get_put', ↓reduceIte, seval, f15], by simp (disch := first | omega | (simp only [lnv]; omega)) only [wlk, ↓get_put', ↓reduceIte, seval, f16], by simp (disch := first | omega | (simp only [lnv]; omega)) only [wlk, ↓get_put', ↓reduceIte, seval, f17]; rfl, st5, by rw [List.flatMap_append]; simpa using o5, hw, sw, by rw [hnew, d3]; simp, fun h2 a ha => ?_⟩
    rcases List.mem_append.1 ha with m | m
    · exact lessE_trans (hless a m) (nxt h2)
    · rw [List.mem_singleton.1 m]; exact nxt h2
  · have hd0 : (A.drop k).getD 0 default = A.getD k default := by simp [List.getD]
    have hz : (A.drop k).length = A.length - k := hdl
    have hnew := jn_new hless hsd (.inr (by rw [hd0]; exact d3))
    rw [hadd, ← htk] at hnew
    repeat' (first
      | refine St.h ?_
      | simp (disch := first | omega | (simp only [lnv]; omega)) only [wlk, ↓get_put', ↓reduceIte, seval, f0, f5, f7, f15, f16, f17, hwg.ln, hwg.ix, la_zero hwg d2, oe.row.ln]
      | (with_reducible (first | apply cd_split | apply gd_split)) <;> (intro hc; (try simp only [hcn] at hc); (try simp only [hc]); (try simp only [hcl] at hc); try omega))
    refine CL.stay (less_ok (a := C.getD i default) (b := A.getD k default) hfg) fun g3' t3' => ?_
    rw [d3]
    have hfg3 := t3'.fl hfg
    have oe3 := oe.stay t3' fun h => h
    repeat' (first
      | refine St.h ?_
      | simp (disch := first | omega | (simp only [lnv]; omega)) only [wlk, ↓get_put', ↓reduceIte, seval, f0, f5, f7, f15, f16, f17, oe3.row.ln]
      | (with_reducible (first | apply cd_split | apply gd_split)) <;> (intro hc; (try simp only [hcn] at hc); (try simp only [hc]); (try simp only [hcl] at hc); try omega))
    refine AL.own (by simp) hfg3 fun g4 t4 _ o4 => ?_
    have hfg4 := t4.fl hfg3
    have og4 := (og.stay t3' fun h => h).stay t4 fun h => h
    repeat' (first
      | refine St.h ?_
      | simp (disch := first | omega | (simp only [lnv]; omega)) only [wlk, ↓get_put', ↓reduceIte, seval, f0, f5, f7, f15, f16, f17]
      | (with_reducible (first | apply cd_split | apply gd_split)) <;> (intro hc; (try simp only [hcn] at hc); (try simp only [hc]); (try simp only [hcl] at hc); try omega))
    refine AP.made (vs := entC (C.getD i default)) (cnt := 1) og4 hJm (new_row o4.row rfl (Nat.le_refl _) (by omega) (by show 4 ≤ 4; omega)) rfl rfl (by omega) (by omega) (by omega) fun g5 o5 t5 => ?_
    have st5 := ((st.trans t3').trans t4).past' t5 fun q hq => by rw [hq]; exact Nat.le_refl _
    repeat' (first
      | refine St.h ?_
      | simp (disch := first | omega | (simp only [lnv]; omega)) only [wlk, ↓get_put', ↓reduceIte, seval, f0, f5, f7, f15, f16, f17]
      | (with_reducible (first | apply cd_split | apply gd_split)) <;> (intro hc; (try simp only [hcn] at hc); (try simp only [hc]); (try simp only [hcl] at hc); try omega))
    refine lp_next hI (C.length - (i + 1)) (by omega) ⟨i + 1, k, w, J ++ [C.getD i default], rfl, by omega, hk, by simp; omega, by simp (disch := first | omega | (simp only [lnv]; omega)) only [wlk, ↓get_put', ↓reduceIte, seval, f0], by simp (disch := first | omega | (simp only [lnv]; omega)) only [wlk, ↓get_put', ↓reduceIte, seval]; simp, by simp (disch := first | omega | (simp only [lnv]; omega)) only [wlk, ↓get_put', ↓reduceIte, seval, f15], by simp (disch := first | omega | (simp only [lnv]; omega)) only [wlk, ↓get_put', ↓reduceIte, seval, f16], by simp (disch := first | omega | (simp only [lnv]; omega)) only [wlk, ↓get_put', ↓reduceIte, seval, f17]; rfl, st5, by rw [List.flatMap_append]; simpa using o5, hw, sw, by rw [hnew]; simp, fun h2 a ha => ?_⟩
    rcases List.mem_append.1 ha with m | m
    · exact lessE_trans (hless a m) (nxt h2)
    · rw [List.mem_singleton.1 m]; exact nxt h2
  · have hd0 : (A.drop k).getD 0 default = A.getD k default := by simp [List.getD]
    have hdc : A.drop k = A.getD k default :: A.drop (k + 1) := drop_entM d2
    obtain ⟨x, x1, x2, x3⟩ := Ss.lo (P := Try.prog) (kd := .i64) (k := 1) hw entC_len sw (by omega)
    rw [List.drop_drop] at x1
    have x3 : ∀ (g : H) (N : Nx), H2 Try.prog (slLoV 4) w (.i .i64 1) g N = N.go Try.prog x g := x3
    repeat' (first
      | refine St.h ?_
      | simp (disch := first | omega | (simp only [lnv]; omega)) only [wlk, ↓get_put', ↓reduceIte, seval, f0, f5, f7, f15, f16, f17, hwg.ln, hwg.ix, la_zero hwg d2, oe.row.ln]
      | (with_reducible (first | apply cd_split | apply gd_split)) <;> (intro hc; (try simp only [hcn] at hc); (try simp only [hc]); (try simp only [hcl] at hc); try omega))
    refine CL.stay (less_ok (a := C.getD i default) (b := A.getD k default) hfg) fun g3' t3' => ?_
    rw [d3]
    have hfg3 := t3'.fl hfg
    have oe3 := oe.stay t3' fun h => h
    have og3 := og.stay t3' fun h => h
    have hwg3 := hwg.grow t3'
    repeat' (first
      | refine St.h ?_
      | simp (disch := first | omega | (simp only [lnv]; omega)) only [wlk, ↓get_put', ↓reduceIte, seval, f0, f5, f7, f15, f16, f17, hwg3.ix, la_zero hwg3 d2]
      | (with_reducible (first | apply cd_split | apply gd_split)) <;> (intro hc; (try simp only [hcn] at hc); (try simp only [hc]); (try simp only [hcl] at hc); try omega))
    refine AL.own (by simp) hfg3 fun g4 t4 _ o4 => ?_
    have hfg4 := t4.fl hfg3
    have og4 := og3.stay t4 fun h => h
    have oe4 := oe3.stay t4 fun h => h
    have hwg4 := hwg3.grow t4
    have n1 : g3'.next ≠ h.next := fun e => by have := own_lt' og3; rw [e] at this; omega
    have n2 : g3'.next ≠ idn := fun e => by have := own_lt' oe3; rw [e] at this; omega
    repeat' (first
      | refine St.h ?_
      | simp (disch := first | omega | (simp only [lnv]; omega)) only [wlk, ↓get_put', ↓reduceIte, seval, f0, f5, f7, f15, f16, f17, hwg4.ix, la_zero hwg4 d2]
      | (with_reducible (first | apply cd_split | apply gd_split)) <;> (intro hc; (try simp only [hcn] at hc); (try simp only [hc]); (try simp only [hcl] at hc); try omega))
    refine ST.all o4 rfl rfl (by simp) (by simp) fun g5 o5 t5 => ?_
    have og5 := og4.stay t5 fun h => n1 h.symm
    have oe5 := oe4.stay t5 fun h => n2 h.symm
    have t45 : Stay nowhere g3' g5 := t4.past' t5 fun q hq => by rw [hq]; exact Nat.le_refl _
    have hfg5 := t45.fl hfg3
    repeat' (first
      | refine St.h ?_
      | simp (disch := first | omega | (simp only [lnv]; omega)) only [wlk, ↓get_put', ↓reduceIte, seval, f0, f5, f7, f15, f16, f17, x3, o5.row.ln]
      | (with_reducible (first | apply cd_split | apply gd_split)) <;> (intro hc; (try simp only [hcn] at hc); (try simp only [hc]); (try simp only [hcl] at hc); try omega))
    refine AL.own (by simp) hfg5 fun g6 t6 _ o6 => ?_
    have hfg6 := t6.fl hfg5
    have og6 := og5.stay t6 fun h => h
    have oe6 := oe5.stay t6 fun h => h
    have o56 := o5.stay t6 fun h => h
    repeat' (first
      | refine St.h ?_
      | simp (disch := first | omega | (simp only [lnv]; omega)) only [wlk, ↓get_put', ↓reduceIte, seval, f0, f5, f7, f15, f16, f17]
      | (with_reducible (first | apply cd_split | apply gd_split)) <;> (intro hc; (try simp only [hcn] at hc); (try simp only [hc]); (try simp only [hcl] at hc); try omega))
    refine AP.made (vs := entC (A.getD k default)) (cnt := 1) og6 hJm (new_row o6.row rfl (Nat.le_refl _) (by omega) (by show 4 ≤ 4; omega)) rfl rfl (by omega) (by omega) (by omega) fun g7 o7 t7 => ?_
    have st7 := (((st.trans t3').trans t45).trans t6).past' t7 fun q hq => by rw [hq]; exact Nat.le_refl _
    have hfg7 := st7.fl hf
    have oe7 := oe6.stay t7 fun h => hcid h
    have o57 := o56.stay t7 fun h => n1 h
    have hJ2 : (J ++ [A.getD k default]).flatMap entC = J.flatMap entC ++ entC (A.getD k default) := by rw [List.flatMap_append]; simp
    have hadd2 : (J ++ [A.getD k default]) ++ A.drop (k + 1) = J ++ A.drop k := by rw [hdc, List.append_assoc]; rfl
    repeat' (first
      | refine St.h ?_
      | simp (disch := first | omega | (simp only [lnv]; omega)) only [wlk, ↓get_put', ↓reduceIte, seval, f0, f5, f7, f15, f16, f17, o57.row.ln, oe7.row.ln]
      | (with_reducible (first | apply cd_split | apply gd_split)) <;> (intro hc; (try simp only [hcn] at hc); (try simp only [hc]); (try simp only [hcl] at hc); try omega))
    refine CL.stay (less_ok (a := A.getD k default) (b := C.getD i default) hfg7) fun g8 t8 => ?_
    have st8 := st7.trans t8
    cases d4 : lessE (A.getD k default) (C.getD i default) with
    | true =>
      repeat' (first
        | refine St.h ?_
        | simp (disch := first | omega | (simp only [lnv]; omega)) only [wlk, ↓get_put', ↓reduceIte, seval, f0, f5, f7, f15, f16, f17]
        | (with_reducible (first | apply cd_split | apply gd_split)) <;> (intro hc; (try simp only [hcn] at hc); (try simp only [hc]); (try simp only [hcl] at hc); try omega))
      refine lp_next hI2 (A.length - (k + 1)) (by omega) ⟨k + 1, x, J ++ [A.getD k default], rfl, by omega, by simp; omega, by simp (disch := first | omega | (simp only [lnv]; omega)) only [wlk, ↓get_put', ↓reduceIte, seval], by simp (disch := first | omega | (simp only [lnv]; omega)) only [wlk, ↓get_put', ↓reduceIte, seval]; simp, by simp (disch := first | omega | (simp only [lnv]; omega)) only [wlk, ↓get_put', ↓reduceIte, seval, f7], by simp (disch := first | omega | (simp only [lnv]; omega)) only [wlk, ↓get_put', ↓reduceIte, seval, f15], by simp (disch := first | omega | (simp only [lnv]; omega)) only [wlk, ↓get_put', ↓reduceIte, seval, f16], by simp (disch := first | omega | (simp only [lnv]; omega)) only [wlk, ↓get_put', ↓reduceIte, seval, f17], st8, by rw [hJ2]; exact o7.stay t8 fun h => h, oe7.stay t8 fun h => h, x1, x2, by rw [hadd2]; exact hadd, fun a ha => ?_⟩
      rcases List.mem_append.1 ha with m | m
      · exact hless a m
      · rw [List.mem_singleton.1 m]; exact d4
    | false =>
      have hsame := jn_same (J := J) (C := A.drop (k + 1)) d3 d4
      rw [← hdc, hadd, ← htk] at hsame
      repeat' (first
        | refine St.h ?_
        | simp (disch := first | omega | (simp only [lnv]; omega)) only [wlk, ↓get_put', ↓reduceIte, seval, f0, f5, f7, f15, f16, f17]
        | (with_reducible (first | apply cd_split | apply gd_split)) <;> (intro hc; (try simp only [hcn] at hc); (try simp only [hc]); (try simp only [hcl] at hc); try omega))
      refine lp_next hI (C.length - (i + 1)) (by omega) ⟨i + 1, k + 1, x, J ++ [A.getD k default], rfl, by omega, by omega, by simp; omega, by simp (disch := first | omega | (simp only [lnv]; omega)) only [wlk, ↓get_put', ↓reduceIte, seval], by simp (disch := first | omega | (simp only [lnv]; omega)) only [wlk, ↓get_put', ↓reduceIte, seval]; simp, by simp (disch := first | omega | (simp only [lnv]; omega)) only [wlk, ↓get_put', ↓reduceIte, seval, f15], by simp (disch := first | omega | (simp only [lnv]; omega)) only [wlk, ↓get_put', ↓reduceIte, seval, f16], by simp (disch := first | omega | (simp only [lnv]; omega)) only [wlk, ↓get_put', ↓reduceIte, seval, f17]; rfl, st8, by rw [hJ2]; exact o7.stay t8 fun h => h, x1, x2, by rw [hadd2, hadd, hsame], fun h2 a ha => ?_⟩
      rcases List.mem_append.1 ha with m | m
      · exact lessE_trans (hless a m) (nxt h2)
      · rw [List.mem_singleton.1 m]; exact le_less d3 (nxt h2)
end Go.Proofs.Ytnjgoggnhdpnoaa

set_option maxRecDepth 1000000
namespace Go.Proofs.Ytnjgoggnhdpnoaa.ravelinlaw11
open Go.Ev
theorem known_run : runFn noTb Try.prog 1000 8 [] = true := by kernel_rfl
theorem known_pure : PureTrue Try.prog 8 := pure_of (noTb_ok _) (Checked.mixed Try.checked) known_run
end Go.Proofs.Ytnjgoggnhdpnoaa.ravelinlaw11

set_option maxRecDepth 100000
set_option maxHeartbeats 8000000
set_option linter.all false
namespace Go.Proofs.Ytnjgoggnhdpnoaa
open Go Go.Ev
theorem Bls.take {h : H} {v u : V} {R : List (List Ent)} {ks : List Bk} {k : Nat} (a : Bls h v R ks) (b : Ss 1 bkC h u (ks.take k)) : Bls h u (R.take k) (ks.take k) :=
  ⟨b, by rw [← a.eq, List.map_take], fun x hx => a.es x (List.mem_of_mem_take hx)⟩
theorem Bls.drop {h : H} {v u : V} {R : List (List Ent)} {ks : List Bk} {k : Nat} (a : Bls h v R ks) (b : Ss 1 bkC h u (ks.drop k)) : Bls h u (R.drop k) (ks.drop k) :=
  ⟨b, by rw [← a.eq, List.map_drop], fun x hx => a.es x (List.mem_of_mem_drop hx)⟩
theorem Bls.ld0 {h : H} {v : V} {R : List (List Ent)} {ks : List Bk} (a : Bls h v R ks) (hi : 0 < R.length) (N : Nx) : L1 Try.prog (lid v) (lg v) (loff v) (lfin v) h N = N.go Try.prog (ks.getD 0 default).v h := by
  have := a.ld (P := Try.prog) (N := N) hi
  rwa [Nat.add_zero] at this
theorem all_take {R : List (List Ent)} {p : List Ent → Bool} (k : Nat) (h : R.all p = true) : (R.take k).all p = true := by
  rw [List.all_eq_true] at h ⊢
  exact fun x hx => h x (List.mem_of_mem_take hx)
theorem all_drop {R : List (List Ent)} {p : List Ent → Bool} (k : Nat) (h : R.all p = true) : (R.drop k).all p = true := by
  rw [List.all_eq_true] at h ⊢
  exact fun x hx => h x (List.mem_of_mem_drop hx)
theorem flat_parts {R : List (List Ent)} (k : Nat) : (R.take k).flatten.length + (R.drop k).flatten.length = R.flatten.length := by
  rw [← List.length_append, ← List.flatten_append, List.take_append_drop]
theorem join_step {h : H} {v : V} {R : List (List Ent)} {ks : List Bk} (hB : Bls h v R ks) (hw : SwN 1 v) (hs : R.all sortedE = true) (hl : R.length ≤ 1000) (hfl : R.flatten.length ≤ 5000) (hf : B.val h.floor ≤ B.val h.next)
    (ih : ∀ {h : H} {v : V} {R' : List (List Ent)} {ks : List Bk}, Bls h v R' ks → SwN 1 v → R'.all sortedE = true → R'.length < R.length → R'.flatten.length ≤ 5000 → B.val h.floor ≤ B.val h.next → FnOk Try.prog 22 [v] h fun y h' => Es h' y (addsE [] R'.flatten) ∧ SwN 4 y ∧ Stay nowhere h h') :
    FnOk Try.prog 22 [v] h fun y h' => Es h' y (addsE [] R.flatten) ∧ SwN 4 y ∧ Stay nowhere h h' := by
  refine fn_go c22 (by intro hb; cases hb) (by simp) (by simp) fun Q hQ => ?_
  simp only [slotsF, Nat.reduceAdd]
  by_cases h0 : R.length = 0
  case pos =>
    have d1 : ((R.length : Int) = 0) = True := eq_true (by omega)
    repeat' (first
      | refine St.h ?_
      | simp (disch := first | omega | (simp only [lnv]; omega)) only [wlk, ↓get_put', ↓reduceIte, seval, hB.ln, d1]
      | (with_reducible (first | apply cd_split | apply gd_split)) <;> (intro hc; (try simp only [hcn] at hc); (try simp only [hc]); (try simp only [hcl] at hc); try omega))
    subst hQ
    rw [List.eq_nil_of_length_eq_zero h0]
    exact ⟨Ss.nil, .inl rfl, Stay.refl _ _⟩
  have d1 : ((R.length : Int) = 0) = False := eq_false (by omega)
  by_cases h1 : R.length = 1
  case pos =>
    have d2 : ((R.length : Int) = 1) = True := eq_true (by omega)
    have hes := hB.at (i := 0) (by omega)
    obtain ⟨r, rfl⟩ : ∃ r, R = [r] := by
      cases R with
      | nil => exact absurd rfl h0
      | cons a R => cases R with
        | nil => exact ⟨a, rfl⟩
        | cons b R => simp at h1
    have hr : r.length ≤ 5000 := by simpa using hfl
    have hsr : sortedE r = true := by simpa using hs
    repeat' (first
      | refine St.h ?_
      | simp (disch := first | omega | (simp only [lnv]; omega)) only [wlk, ↓get_put', ↓reduceIte, seval, hB.ln, d1, d2, hB.ix, hB.ld0]
      | (with_reducible (first | apply cd_split | apply gd_split)) <;> (intro hc; (try simp only [hcn] at hc); (try simp only [hc]); (try simp only [hcl] at hc); try omega))
    refine CL.mk (cloneE_ok (L := r) hes (by omega) hf) ?_
    rintro y h2 ⟨y1, y2, y3⟩
    repeat' (first
      | refine St.h ?_
      | simp (disch := first | omega | (simp only [lnv]; omega)) only [wlk, ↓get_put', ↓reduceIte, seval]
      | (with_reducible (first | apply cd_split | apply gd_split)) <;> (intro hc; (try simp only [hcn] at hc); (try simp only [hc]); (try simp only [hcl] at hc); try omega))
    subst hQ
    rw [rows_one hsr]
    exact ⟨y1, y2, y3⟩
  have d2 : ((R.length : Int) = 1) = False := eq_false (by omega)
  have hkl := hB.len
  have e1 : (R.length : Int) / 2 = ((R.length / 2 : Nat) : Int) := by omega
  obtain ⟨x, x1, x2, x3⟩ := Ss.hi (P := Try.prog) (kd := .i64) (k := R.length / 2) hB.ss bkC_len hw (by omega)
  obtain ⟨z, z1, z2, z3⟩ := Ss.lo (P := Try.prog) (kd := .i64) (k := R.length / 2) hB.ss bkC_len hw (by omega)
  have B1 := hB.take x1
  have B2 := hB.drop z1
  have hp := flat_parts (R := R) (R.length / 2)
  repeat' (first
    | refine St.h ?_
    | simp (disch := first | omega | (simp only [lnv]; omega)) only [wlk, ↓get_put', ↓reduceIte, seval, hB.ln, d1, d2, e1, x3, z3]
    | (with_reducible (first | apply cd_split | apply gd_split)) <;> (intro hc; (try simp only [hcn] at hc); (try simp only [hc]); (try simp only [hcl] at hc); try omega))
  refine CL.mk (ih B1 x2 (all_take _ hs) (by rw [List.length_take]; omega) (by omega) hf) ?_
  rintro y h2 ⟨y1, y2, y3⟩
  have hf2 := y3.fl hf
  repeat' (first
    | refine St.h ?_
    | simp (disch := first | omega | (simp only [lnv]; omega)) only [wlk, ↓get_put', ↓reduceIte, seval, hB.ln, d1, d2, e1, x3, z3]
    | (with_reducible (first | apply cd_split | apply gd_split)) <;> (intro hc; (try simp only [hcn] at hc); (try simp only [hc]); (try simp only [hcl] at hc); try omega))
  refine CL.mk (ih (B2.grow y3) z2 (all_drop _ hs) (by rw [List.length_drop]; omega) (by omega) hf2) ?_
  rintro u h3 ⟨u1, u2, u3⟩
  have hf3 := u3.fl hf2
  have l1 := addsE_len (L := []) (M := (R.take (R.length / 2)).flatten)
  have l2 := addsE_len (L := []) (M := (R.drop (R.length / 2)).flatten)
  simp only [List.length_nil, Nat.zero_add] at l1 l2
  repeat' (first
    | refine St.h ?_
    | simp (disch := first | omega | (simp only [lnv]; omega)) only [wlk, ↓get_put', ↓reduceIte, seval]
    | (with_reducible (first | apply cd_split | apply gd_split)) <;> (intro hc; (try simp only [hcn] at hc); (try simp only [hc]); (try simp only [hcl] at hc); try omega))
  refine CL.mk (joinTwo_ok (y1.grow u3) u1 y2 (addsE_sorted (L := []) rfl) (addsE_sorted (L := []) rfl) (by omega) hf3) ?_
  rintro w h4 ⟨w1, w2, w3⟩
  rw [rows_halves] at w1
  repeat' (first
    | refine St.h ?_
    | simp (disch := first | omega | (simp only [lnv]; omega)) only [wlk, ↓get_put', ↓reduceIte, seval]
    | (with_reducible (first | apply cd_split | apply gd_split)) <;> (intro hc; (try simp only [hcn] at hc); (try simp only [hc]); (try simp only [hcl] at hc); try omega))
  subst hQ
  exact ⟨w1, w2, (y3.trans u3).trans w3⟩
theorem join_ok : ∀ (n : Nat) {h : H} {v : V} {R : List (List Ent)} {ks : List Bk}, R.length < n → n ≤ 1001 → Bls h v R ks → SwN 1 v → R.all sortedE = true → R.flatten.length ≤ 5000 → B.val h.floor ≤ B.val h.next → FnOk Try.prog 22 [v] h fun y h' => Es h' y (addsE [] R.flatten) ∧ SwN 4 y ∧ Stay nowhere h h'
  | 0, h, v, R, ks, hn, _, _, _, _, _, _ => absurd hn (by omega)
  | n + 1, h, v, R, ks, hn, hb, hB, hw, hs, hfl, hf => join_step hB hw hs (by omega) hfl hf fun a b c d e f => join_ok n (by omega) (by omega) a b c e f
def errR (R : List (List Ent)) : Int := if (rowsE R).2 then 0 else 16
theorem mrows_ok {h : H} {v : V} {R : List (List Ent)} {ks : List Bk} (hB : Bls h v R ks) (hw : SwN 1 v) (hl : R.length ≤ 1000) (hfl : R.flatten.length ≤ 5000) (hf : B.val h.floor ≤ B.val h.next) : FnOk Try.prog 11 [v] h fun y h' =>
    ∃ w, y = .tu [w, .i .i64 (errR R)] ∧ Es h' w (rowsE R).1 ∧ SwN 4 w ∧ Stay nowhere h h' := by
  refine fn_go c11 (by intro hb; cases hb) (by simp) (by simp) fun Q hQ => ?_
  simp only [slotsF, Nat.reduceAdd]
  repeat' (first
    | refine St.h ?_
    | simp (disch := first | omega | (simp only [lnv]; omega)) only [wlk, ↓get_put', ↓reduceIte, seval, hB.ln]
    | (with_reducible (first | apply cd_split | apply gd_split)) <;> (intro hc; (try simp only [hcn] at hc); (try simp only [hc]); (try simp only [hcl] at hc); try omega))
  refine Ok.lp (fun m t g => ∃ (i : Nat), m = R.length - i ∧ i ≤ R.length ∧ get 0 t = v ∧ get 6 t = v ∧ get 7 t = .i .i64 (R.length : Int) ∧ get 8 t = .i .i64 (i : Int) ∧ Stay nowhere h g ∧ (∀ q, q < i → sortedE (R.getD q []) = true)) R.length ?_ ?_
  · simp (disch := first | omega | (simp only [lnv]; omega)) only [wlk, ↓get_put', ↓reduceIte, seval]
    refine ⟨0, by omega, by omega, ?_⟩
    refine ⟨?_, ?_, ?_, ?_, Stay.refl _ _, fun q hq => by omega⟩
    all_goals first | trivial | rfl
  rintro I hI m t g ⟨i, rfl, hi, f0, f6, f7, f8, st, hso⟩
  have hfg := st.fl hf
  have hBg := hB.grow st
  by_cases hil : i < R.length
  case neg =>
    obtain rfl : i = R.length := by omega
    have hall : R.all sortedE = true := by
      rw [List.all_eq_true]
      intro a ha
      obtain ⟨q, hq, rfl⟩ := List.getElem_of_mem ha
      have := hso q hq
      rwa [List.getD_eq_getElem?_getD, List.getElem?_eq_getElem hq] at this
    repeat' (first
      | refine St.h ?_
      | simp (disch := first | omega | (simp only [lnv]; omega)) only [wlk, ↓get_put', ↓reduceIte, seval, f0, f6, f7, f8]
      | (with_reducible (first | apply cd_split | apply gd_split)) <;> (intro hc; (try simp only [hcn] at hc); (try simp only [hc]); (try simp only [hcl] at hc); try omega))
    refine CL.mk (join_ok (R.length + 1) (by omega) (by omega) hBg hw hall hfl hfg) ?_
    rintro y h2 ⟨y1, y2, y3⟩
    repeat' (first
      | refine St.h ?_
      | simp (disch := first | omega | (simp only [lnv]; omega)) only [wlk, ↓get_put', ↓reduceIte, seval]
      | (with_reducible (first | apply cd_split | apply gd_split)) <;> (intro hc; (try simp only [hcn] at hc); (try simp only [hc]); (try simp only [hcl] at hc); try omega))
    subst hQ
    refine ⟨y, ?_, by rw [rowsE_ok hall]; exact y1, y2, st.trans y3⟩
    unfold errR; rw [rowsE_ok hall]; rfl
  have hes := hBg.at hil
  have hla := flat_len_at hil
  repeat' (first
    | refine St.h ?_
    | simp (disch := first | omega | (simp only [lnv]; omega)) only [wlk, ↓get_put', ↓reduceIte, seval, f0, f6, f7, f8, hB.ix hil, hBg.ld hil, Int.toNat_natCast]
    | (with_reducible (first | apply cd_split | apply gd_split)) <;> (intro hc; (try simp only [hcn] at hc); (try simp only [hc]); (try simp only [hcl] at hc); try omega))
  refine CL.stay (sorted_ok hes (by omega) hfg) fun g1 t1 => ?_
  have st1 := st.trans t1
  cases hs : sortedE (R.getD i []) with
  | false =>
    have hall : R.all sortedE = false := by
      rw [List.all_eq_false]
      refine ⟨R.getD i [], ?_, by rw [hs]; simp⟩
      rw [List.getD_eq_getElem?_getD, List.getElem?_eq_getElem hil]; simp
    repeat' (first
      | refine St.h ?_
      | simp (disch := first | omega | (simp only [lnv]; omega)) only [wlk, ↓get_put', ↓reduceIte, seval]
      | (with_reducible (first | apply cd_split | apply gd_split)) <;> (intro hc; (try simp only [hcn] at hc); (try simp only [hc]); (try simp only [hcl] at hc); try omega))
    subst hQ
    refine ⟨.l0, ?_, by rw [rowsE_bad hall]; exact Ss.nil, .inl rfl, st1⟩
    unfold errR; rw [rowsE_bad hall]; rfl
  | true =>
    repeat' (first
      | refine St.h ?_
      | simp (disch := first | omega | (simp only [lnv]; omega)) only [wlk, ↓get_put', ↓reduceIte, seval, f0, f6, f7, f8]
      | (with_reducible (first | apply cd_split | apply gd_split)) <;> (intro hc; (try simp only [hcn] at hc); (try simp only [hc]); (try simp only [hcl] at hc); try omega))
    refine lp_next hI (R.length - (i + 1)) (by omega) ⟨i + 1, rfl, by omega, by simp (disch := first | omega | (simp only [lnv]; omega)) only [wlk, ↓get_put', ↓reduceIte, seval, f0], by simp (disch := first | omega | (simp only [lnv]; omega)) only [wlk, ↓get_put', ↓reduceIte, seval, f6], by simp (disch := first | omega | (simp only [lnv]; omega)) only [wlk, ↓get_put', ↓reduceIte, seval, f7], by simp (disch := first | omega | (simp only [lnv]; omega)) only [wlk, ↓get_put', ↓reduceIte, seval, f8]; rfl, st1, fun q hq => ?_⟩
    by_cases e : q = i
    · rw [e]; exact hs
    · exact hso q (by omega)
theorem fm_take_succ {α : Type} {R : List (List Ent)} {f : List Ent → List α} {r : Nat} (hr : r < R.length) : (R.take (r + 1)).flatMap f = (R.take r).flatMap f ++ f (R.getD r []) := by
  rw [List.take_succ, List.flatMap_append]; congr 1; simp [List.getD, hr]
theorem fm_le {f : List Ent → List Ent} (h : ∀ g, (f g).length ≤ g.length) : ∀ R : List (List Ent), (R.flatMap f).length ≤ R.flatten.length
  | [] => Nat.le_refl _
  | g :: R => by
    rw [List.flatMap_cons, List.flatten_cons, List.length_append, List.length_append]
    exact Nat.add_le_add (h g) (fm_le h R)
theorem getD_memR {R : List (List Ent)} {r : Nat} (hr : r < R.length) : R.getD r [] ∈ R := by
  rw [List.getD_eq_getElem?_getD, List.getElem?_eq_getElem hr]; simp
/-- append to a clone of ints -/
theorem AP.clI {P : Program} {h0 h : H} {N : Nx} {y x : V} {S : List Int} {z : Int} (c : ClI h0 h y S) (s0 : Stay nowhere h0 h) (hx : ∀ k : Nat → List V → Bool, newCells 1 x h k = k 1 [.i .i64 z]) (hf : B.val h.floor ≤ B.val h.next) (hl : S.length ≤ 1000)
    (k : ∀ v' h', Buf h' 3 1 v' ((S ++ [z]).map (V.i .i64)) → Top h' v' → Stay nowhere h0 h' → (∀ i, isOf v' i → B.val h0.next ≤ B.val i) → N.go P v' h') : AP P 3 1 y x h N := by
  rcases c with ⟨rfl, id, g, off, fin, rfl⟩ | ⟨b, own⟩
  · refine AP.e1 hx hf rfl (by omega) (by simp) (fun e => by omega) fun h' _ s2 n2 b2 tp2 => k _ h' b2 tp2 (s0.trans s2) ?_
    rintro q ⟨_, _, _, _, _, e⟩
    cases e; exact s0.next
  · refine AP.buf b hx hf (by omega) rfl rfl (by simp; omega) fun v' h' b2 s2 ho tp => k v' h' (by rw [List.map_append]; exact b2) tp (s0.past' s2 fun q hq => own q hq) fun i hi => ?_
    rcases ho i hi with h1 | h1
    · exact own i h1
    · have := s0.next; omega
theorem mpack_ok {h : H} {v u : V} {L : List Ent} {S : List Int} {b : Bool} (hL : Es h v L) (hw : SwN 4 v) (hS : Kl h .i64 u S) (hl : L.length ≤ 5000) (hsl : S.length ≤ 10) (hwr : ∀ n ∈ S, -9223372036854775808 ≤ n ∧ n ≤ 9223372036854775807) (hf : B.val h.floor ≤ B.val h.next) : FnOk Try.prog 16 [v, u, .b b] h fun y h' =>
    Es h' y (packE L S b) ∧ SwN 4 y ∧ Stay nowhere h h' := by
  refine fn_go c16 (by intro hb; cases hb) (by simp) (by simp) fun Q hQ => ?_
  simp only [slotsF, Nat.reduceAdd]
  repeat' (first
    | refine St.h ?_
    | simp (disch := first | omega | (simp only [lnv]; omega)) only [wlk, ↓get_put', ↓reduceIte, seval]
    | (with_reducible (first | apply cd_split | apply gd_split)) <;> (intro hc; (try simp only [hcn] at hc); (try simp only [hc]); (try simp only [hcl] at hc); try omega))
  refine CL.stay (sorted_ok hL (by omega) hf) fun h1 s1 => ?_
  have hf1 := s1.fl hf
  have hL1 := hL.grow s1
  cases hs : sortedE L with
  | false =>
    repeat' (first
      | refine St.h ?_
      | simp (disch := first | omega | (simp only [lnv]; omega)) only [wlk, ↓get_put', ↓reduceIte, seval]
      | (with_reducible (first | apply cd_split | apply gd_split)) <;> (intro hc; (try simp only [hcn] at hc); (try simp only [hc]); (try simp only [hcl] at hc); try omega))
    subst hQ
    exact ⟨by rw [packE_bad (.inr hs)]; exact Ss.nil, .inl rfl, s1⟩
  | true =>
  repeat' (first
    | refine St.h ?_
    | simp (disch := first | omega | (simp only [lnv]; omega)) only [wlk, ↓get_put', ↓reduceIte, seval]
    | (with_reducible (first | apply cd_split | apply gd_split)) <;> (intro hc; (try simp only [hcn] at hc); (try simp only [hc]); (try simp only [hcl] at hc); try omega))
  refine CL.stay (anyNone_ok hL1 (by omega) hf1) fun h2 s2 => ?_
  have hf2 := s2.fl hf1
  have hL2 := hL1.grow s2
  cases ha : L.all isE with
  | false =>
    repeat' (first
      | refine St.h ?_
      | simp (disch := first | omega | (simp only [lnv]; omega)) only [wlk, ↓get_put', ↓reduceIte, seval]
      | (with_reducible (first | apply cd_split | apply gd_split)) <;> (intro hc; (try simp only [hcn] at hc); (try simp only [hc]); (try simp only [hcl] at hc); try omega))
    subst hQ
    exact ⟨by rw [packE_bad (.inl ha)]; exact Ss.nil, .inl rfl, s1.trans s2⟩
  | true =>
  have st2 := s1.trans s2
  repeat' (first
    | refine St.h ?_
    | simp (disch := first | omega | (simp only [lnv]; omega)) only [wlk, ↓get_put', ↓reduceIte, seval]
    | (with_reducible (first | apply cd_split | apply gd_split)) <;> (intro hc; (try simp only [hcn] at hc); (try simp only [hc]); (try simp only [hcl] at hc); try omega))
  refine CL.mk (cloneI_ok (Lst.grow hS st2) (by omega) hf2) ?_
  rintro y3 h3 ⟨c3, s3⟩
  have hf3 := s3.fl hf2
  repeat' (first
    | refine St.h ?_
    | simp (disch := first | omega | (simp only [lnv]; omega)) only [wlk, ↓get_put', ↓reduceIte, seval]
    | (with_reducible (first | apply cd_split | apply gd_split)) <;> (intro hc; (try simp only [hcn] at hc); (try simp only [hc]); (try simp only [hcl] at hc); try omega))
  refine AL.own (by simp) hf3 fun h4 s4 _ o4 => ?_
  have hf4 := s4.fl hf3
  have c4 : ClI h2 h4 y3 S := by
    rcases c3 with c | ⟨c, d⟩
    · exact .inl c
    · exact .inr ⟨c.grow s4, d⟩
  repeat' (first
    | refine St.h ?_
    | simp (disch := first | omega | (simp only [lnv]; omega)) only [wlk, ↓get_put', ↓reduceIte, seval]
    | (with_reducible (first | apply cd_split | apply gd_split)) <;> (intro hc; (try simp only [hcn] at hc); (try simp only [hc]); (try simp only [hcl] at hc); try omega))
  refine AP.clI c4 (s3.trans s4) (new_row o4.row rfl (Nat.le_refl _) (by omega) (by show 1 ≤ 1; omega)) hf4 (by omega) fun v5 h5 b5 tp5 s5 own5 => ?_
  have hf5 := s5.fl hf2
  repeat' (first
    | refine St.h ?_
    | simp (disch := first | omega | (simp only [lnv]; omega)) only [wlk, ↓get_put', ↓reduceIte, seval]
    | (with_reducible (first | apply cd_split | apply gd_split)) <;> (intro hc; (try simp only [hcn] at hc); (try simp only [hc]); (try simp only [hcl] at hc); try omega))
  refine CL.mk (sort_ok b5 tp5 (by simp; omega) (fun n hn => ?_) hf5) ?_
  · rcases List.mem_append.1 hn with m | m
    · exact hwr n m
    · rw [List.mem_singleton.1 m]; omega
  rintro y6 h6 ⟨T, srt, hT, hTl, bT, tT, s6⟩
  have st6 : Stay nowhere h2 h6 := s5.past' s6 own5
  have hf6 := st6.fl hf2
  have hTm : ∀ n, n ∈ T ↔ n ∈ S ∨ n = 1000000 := fun n => by rw [hT, List.mem_append, List.mem_singleton]
  have hTl : T.length ≤ 11 := by rw [hTl]; simp; omega
  repeat' (first
    | refine St.h ?_
    | simp (disch := first | omega | (simp only [lnv]; omega)) only [wlk, ↓get_put', ↓reduceIte, seval]
    | (with_reducible (first | apply cd_split | apply gd_split)) <;> (intro hc; (try simp only [hcn] at hc); (try simp only [hc]); (try simp only [hcl] at hc); try omega))
  refine CL.mk (byKey_ok (hL2.grow st6) hw hs hl hf6) ?_
  rintro rv h7 ⟨R, ks, hB, G, hRl, s7⟩
  have hf7 := s7.fl hf6
  have hT7 : Lst h7 v5 (T.map (V.i .i64)) := (bT.grow s7).lst
  have hflat : R.flatten.length ≤ 5000 := by rw [G.flat]; exact hl
  have hfle : ∀ k, ((R.take k).flatMap (keepG S b)).length ≤ 5000 := fun k => by
    have h1 := fm_le (f := keepG S b) (fun g => keepG_sub.length_le) (R.take k)
    have h2 := flat_parts (R := R) k
    omega
  repeat' (first
    | refine St.h ?_
    | simp (disch := first | omega | (simp only [lnv]; omega)) only [wlk, ↓get_put', ↓reduceIte, seval, hB.ln]
    | (with_reducible (first | apply cd_split | apply gd_split)) <;> (intro hc; (try simp only [hcn] at hc); (try simp only [hc]); (try simp only [hcl] at hc); try omega))
  refine Ok.lp (fun m t g => ∃ (r : Nat) (w : V), m = R.length - r ∧ r ≤ R.length ∧ get 2 t = .b b ∧ get 7 t = v5 ∧ get 8 t = w ∧ get 26 t = rv ∧ get 27 t = .i .i64 (R.length : Int) ∧ get 28 t = .i .i64 (r : Int) ∧ Stay nowhere h7 g ∧ Buf g 39 4 w (((R.take r).flatMap (keepG S b)).flatMap entC) ∧ (∀ q, isOf w q → B.val h7.next ≤ B.val q)) R.length ?_ ?_
  · simp (disch := first | omega | (simp only [lnv]; omega)) only [wlk, ↓get_put', ↓reduceIte, seval]
    refine ⟨0, .l0, by omega, by omega, ?_⟩
    refine ⟨?_, ?_, ?_, ?_, ?_, ?_, Stay.refl _ _, Buf.nil _ _ _, ?_⟩
    rotate_right
    · rintro i ⟨_, _, _, _, _, e⟩; cases e
    all_goals first | trivial | rfl
  rintro I hI m t g ⟨r, w, rfl, hr, f2, f7, f8, f26, f27, f28, st, bf, own⟩
  have hfg := st.fl hf7
  have hBg := hB.grow st
  by_cases hrl : r < R.length
  case neg =>
    obtain rfl : r = R.length := by omega
    rw [List.take_length, ← G.pack ha hs] at bf
    repeat' (first
      | refine St.h ?_
      | simp (disch := first | omega | (simp only [lnv]; omega)) only [wlk, ↓get_put', ↓reduceIte, seval, f2, f7, f8, f26, f27, f28]
      | (with_reducible (first | apply cd_split | apply gd_split)) <;> (intro hc; (try simp only [hcn] at hc); (try simp only [hc]); (try simp only [hcl] at hc); try omega))
    subst hQ
    exact ⟨Ss.buf bf rfl entC_len (by omega), swn_bufE bf, ((st2.trans st6).trans s7).trans st⟩
  have hmem := getD_memR hrl
  have hes := hBg.at hrl
  have hsub := G.sub hmem
  have hsg : sortedE (R.getD r []) = true := sub_sorted hsub hs
  have hkg := G.same _ hmem
  have hag : (R.getD r []).all isE = true := by
    rw [List.all_eq_true] at ha ⊢
    exact fun x hx => ha x (hsub.subset hx)
  have hsu := fm_take_succ (f := keepG S b) hrl
  have hlg := flat_len_at hrl
  have hb1 := hfle r
  have hb2 := hfle (r + 1)
  have hfm := fm_len entC_len ((R.take r).flatMap (keepG S b))
  generalize hgr : R.getD r [] = gr at *
  repeat' (first
    | refine St.h ?_
    | simp (disch := first | omega | (simp only [lnv]; omega)) only [wlk, ↓get_put', ↓reduceIte, seval, f2, f7, f8, f26, f27, f28, hB.ix hrl, hBg.ld hrl, Int.toNat_natCast]
    | (with_reducible (first | apply cd_split | apply gd_split)) <;> (intro hc; (try simp only [hcn] at hc); (try simp only [hc]); (try simp only [hcl] at hc); try omega))
  refine CL.mk (seenBy_ok hes (hT7.grow st) srt hTm hag hsg hkg (by omega) (by omega) hfg) ?_
  rintro y9 g9 ⟨u9, w9, t9⟩
  have hfg9 := t9.fl hfg
  have bf9 := bf.grow t9
  have st9 := st.trans t9
  rw [hsu, List.length_append] at hb2
  have hfl : (gr.filter (wantP gr S)).length ≤ gr.length := List.length_filter_le _ _
  cases b with
  | false =>
    have hkp : keepG S false gr = gr.filter (wantP gr S) := rfl
    rw [hkp] at hsu hb2
    have hfm2 := fm_len entC_len (gr.filter (wantP gr S))
    repeat' (first
      | refine St.h ?_
      | simp (disch := first | omega | (simp only [lnv]; omega)) only [wlk, ↓get_put', ↓reduceIte, seval, f2, f7, f8, f26, f27, f28]
      | (with_reducible (first | apply cd_split | apply gd_split)) <;> (intro hc; (try simp only [hcn] at hc); (try simp only [hc]); (try simp only [hcl] at hc); try omega))
    refine AP.buf bf9 (new_ss u9 entC_len (by omega)) hfg9 (by omega) hfm2 (allOne_entM _) (by rw [hfm, hfm2]; omega) fun u' g10 b10 t10 ho tp => ?_
    have s10 : Stay nowhere h7 g10 := st9.past' t10 fun q hq => own q hq
    repeat' (first
      | refine St.h ?_
      | simp (disch := first | omega | (simp only [lnv]; omega)) only [wlk, ↓get_put', ↓reduceIte, seval, f2, f7, f8, f26, f27, f28]
      | (with_reducible (first | apply cd_split | apply gd_split)) <;> (intro hc; (try simp only [hcn] at hc); (try simp only [hc]); (try simp only [hcl] at hc); try omega))
    refine lp_next hI (R.length - (r + 1)) (by omega) ⟨r + 1, u', rfl, by omega, by simp (disch := first | omega | (simp only [lnv]; omega)) only [wlk, ↓get_put', ↓reduceIte, seval, f2], by simp (disch := first | omega | (simp only [lnv]; omega)) only [wlk, ↓get_put', ↓reduceIte, seval, f7], by simp (disch := first | omega | (simp only [lnv]; omega)) only [wlk, ↓get_put', ↓reduceIte, seval], by simp (disch := first | omega | (simp only [lnv]; omega)) only [wlk, ↓get_put', ↓reduceIte, seval, f26], by simp (disch := first | omega | (simp only [lnv]; omega)) only [wlk, ↓get_put', ↓reduceIte, seval, f27], by simp (disch := first | omega | (simp only [lnv]; omega)) only [wlk, ↓get_put', ↓reduceIte, seval, f28]; rfl, s10, by rw [hsu, List.flatMap_append]; exact b10, fun p hp => ?_⟩
    rcases ho p hp with h1 | h1
    · exact own p h1
    · have := st9.next; omega
  | true =>
    have hkp : keepG S true gr = stripE (gr.filter (wantP gr S)) := rfl
    rw [hkp] at hsu hb2
    have hfm2 := fm_len entC_len (stripE (gr.filter (wantP gr S)))
    repeat' (first
      | refine St.h ?_
      | simp (disch := first | omega | (simp only [lnv]; omega)) only [wlk, ↓get_put', ↓reduceIte, seval, f2, f7, f8, f26, f27, f28]
      | (with_reducible (first | apply cd_split | apply gd_split)) <;> (intro hc; (try simp only [hcn] at hc); (try simp only [hc]); (try simp only [hcl] at hc); try omega))
    refine CL.mk (strip_ok u9 w9 (by omega) hfg9) ?_
    rintro y10 g10' ⟨u10, w10, rfl⟩
    repeat' (first
      | refine St.h ?_
      | simp (disch := first | omega | (simp only [lnv]; omega)) only [wlk, ↓get_put', ↓reduceIte, seval, f2, f7, f8, f26, f27, f28]
      | (with_reducible (first | apply cd_split | apply gd_split)) <;> (intro hc; (try simp only [hcn] at hc); (try simp only [hc]); (try simp only [hcl] at hc); try omega))
    refine AP.buf bf9 (new_ss u10 entC_len (by omega)) hfg9 (by omega) hfm2 (allOne_entM _) (by rw [hfm, hfm2]; omega) fun u' g10 b10 t10 ho tp => ?_
    have s10 : Stay nowhere h7 g10 := st9.past' t10 fun q hq => own q hq
    repeat' (first
      | refine St.h ?_
      | simp (disch := first | omega | (simp only [lnv]; omega)) only [wlk, ↓get_put', ↓reduceIte, seval, f2, f7, f8, f26, f27, f28]
      | (with_reducible (first | apply cd_split | apply gd_split)) <;> (intro hc; (try simp only [hcn] at hc); (try simp only [hc]); (try simp only [hcl] at hc); try omega))
    refine lp_next hI (R.length - (r + 1)) (by omega) ⟨r + 1, u', rfl, by omega, by simp (disch := first | omega | (simp only [lnv]; omega)) only [wlk, ↓get_put', ↓reduceIte, seval, f2], by simp (disch := first | omega | (simp only [lnv]; omega)) only [wlk, ↓get_put', ↓reduceIte, seval, f7], by simp (disch := first | omega | (simp only [lnv]; omega)) only [wlk, ↓get_put', ↓reduceIte, seval], by simp (disch := first | omega | (simp only [lnv]; omega)) only [wlk, ↓get_put', ↓reduceIte, seval, f26], by simp (disch := first | omega | (simp only [lnv]; omega)) only [wlk, ↓get_put', ↓reduceIte, seval, f27], by simp (disch := first | omega | (simp only [lnv]; omega)) only [wlk, ↓get_put', ↓reduceIte, seval, f28]; rfl, s10, by rw [hsu, List.flatMap_append]; exact b10, fun p hp => ?_⟩
    rcases ho p hp with h1 | h1
    · exact own p h1
    · have := st9.next; omega
theorem known11 {h : H} : FnOk Try.prog 8 [] h fun y h' => y = .b true ∧ h' = h := FnOk.of_pure ravelinlaw11.known_pure h
end Go.Proofs.Ytnjgoggnhdpnoaa

set_option maxRecDepth 1000000
set_option linter.all false
namespace Go.Proofs.Ytnjgoggnhdpnoaa
open Go Go.Ev
noncomputable abbrev s8_0 : CC := (CC.seq (CC.draws [(uB 46 (doMove (tm 4))), (uB 47 (bin2 fEql (tm 46) (oN 0))), (uB 48 (doMove (tm 47))), (uG 48 true 49 (doMove (tm 3))), (uG 48 true 50 (doLen (tm 49))), (uG 48 true 51 (bin2 fEql (tm 50) (oN 4))), (uB 52 (doPick (tm 48) (tm 51) (O.c (V.b Bool.false)))), (uB 53 (doMove (tm 52))), (uG 53 true 54 (doMove (tm 3))), (uG 53 true 55 (doIndexAddr 4 (tm 54) (oN 1))), (uG 53 true 56 (doLoadA 4 (tm 55))), (uG 53 true 57 (doMove (tm 2))), (uG 53 true 58 (doIndexAddr 4 (tm 57) (oN 0))), (uG 53 true 59 (doLoadA 4 (tm 58))), (uG 53 true 60 (doSEq [KD.s, KD.i, KD.b, KD.s] Bool.false (tm 56) (tm 59))), (uB 61 (doPick (tm 53) (tm 60) (O.c (V.b Bool.false)))), (uB 62 (doMove (tm 61))), (uG 62 true 63 (doMove (tm 6))), (uG 62 true 64 (bin2 fEql (tm 63) (oN 16))), (uB 65 (doPick (tm 62) (tm 64) (O.c (V.b Bool.false)))), (uB 66 (doMove (tm 65))), (uG 66 true 67 (doMove (tm 7))), (uG 66 true 68 (doLen (tm 67))), (uG 66 true 69 (bin2 fEql (tm 68) (oN 0))), (uB 70 (doPick (tm 66) (tm 69) (O.c (V.b Bool.false)))), (uB 71 (doMove (tm 70))), (uG 71 true 72 (doMove (tm 8))), (uG 71 true 73 (doLen (tm 72))), (uG 71 true 74 (bin2 fEql (tm 73) (oN 1))), (uB 75 (doPick (tm 71) (tm 74) (O.c (V.b Bool.false)))), (uB 76 (doMove (tm 75))), (uG 76 true 77 (doMove (tm 9))), (uG 76 true 78 (doLen (tm 77))), (uG 76 true 79 (bin2 fEql (tm 78) (oN 3))), (uB 80 (doPick (tm 76) (tm 79) (O.c (V.b Bool.false)))), (uB 81 (doMove (tm 80))), (uG 81 true 82 (doMove (tm 10))), (uG 81 true 83 (doLen (tm 82))), (uG 81 true 84 (bin2 fEql (tm 83) (oN 1))), (uB 85 (doPick (tm 81) (tm 84) (O.c (V.b Bool.false)))), (uB 0 (doMove (tm 85)))]) CC.ret)
noncomputable abbrev s8_1 : CC := (CC.seq (CC.region [(wB 43 (doMove (tm 3))), (wB 44 (doBuildSlice 3 1 [(V.i IntKind.i64 (Int.ofNat 0))] [(Pt.mk 0 1 (oN 2))])), (wB 45 (doCall 16 [(tm 43), (tm 44), (O.c (V.b Bool.true))])), (wB 10 (doMove (tm 45)))]) s8_0)
noncomputable abbrev s8_2 : CC := (CC.seq (CC.region [(wB 40 (doMove (tm 3))), (wB 41 (doBuildSlice 3 1 [(V.i IntKind.i64 (Int.ofNat 0))] [(Pt.mk 0 1 (oN 2))])), (wB 42 (doCall 16 [(tm 40), (tm 41), (O.c (V.b Bool.false))])), (wB 9 (doMove (tm 42)))]) s8_1)
noncomputable abbrev s8_3 : CC := (CC.seq (CC.region [(wB 38 (doMove (tm 3))), (wB 39 (doCall 14 [(tm 38), (oN 3)])), (wB 8 (doMove (tm 39)))]) s8_2)
noncomputable abbrev s8_4 : CC := (CC.seq (CC.region [(wB 36 (doMove (tm 3))), (wB 37 (doCall 14 [(tm 36), (oN 2)])), (wB 7 (doMove (tm 37)))]) s8_3)
noncomputable abbrev s8_5 : CC := (CC.seq (CC.draws [(uB 25 (doMove (tm 1))), (uB 26 (doIndexAddr 4 (tm 25) (oN 1))), (uB 27 (doLoadA 4 (tm 26))), (uB 28 (doMove (tm 1))), (uB 29 (doIndexAddr 4 (tm 28) (oN 0))), (uB 30 (doLoadA 4 (tm 29))), (wB 31 (doBuildSlice 39 2 [(V.s 0 0), (V.i IntKind.i64 (Int.ofNat 0)), (V.b Bool.false), (V.s 0 0), (V.s 0 0), (V.i IntKind.i64 (Int.ofNat 0)), (V.b Bool.false), (V.s 0 0)] [(Pt.mk 0 4 (tm 27)), (Pt.mk 4 4 (tm 30))])), (wB 32 (doBuildSlice 23 1 [V.l0] [(Pt.mk 0 1 (tm 31))])), (wB 33 (doCall 11 [(tm 32)])), (uB 24 (doMove (tm 33))), (uB 34 (doExtract 0 (tm 24))), (uB 35 (doExtract 1 (tm 24))), (uB 5 (doMove (tm 34))), (uB 6 (doMove (tm 35)))]) s8_4)
noncomputable abbrev s8_6 : CC := (CC.seq (CC.region [(wB 18 (doMove (tm 1))), (wB 19 (doMove (tm 2))), (wB 20 (doBuildSlice 23 2 [V.l0, V.l0] [(Pt.mk 0 1 (tm 18)), (Pt.mk 1 1 (tm 19))])), (wB 21 (doCall 11 [(tm 20)])), (wB 17 (doMove (tm 21))), (wB 22 (doExtract 0 (tm 17))), (wB 23 (doExtract 1 (tm 17))), (wB 3 (doMove (tm 22))), (wB 4 (doMove (tm 23)))]) s8_5)
noncomputable abbrev s8_7 : CC := (CC.seq (CC.region [(wB 14 (doBuild [(V.s 0 0), (V.i IntKind.i64 (Int.ofNat 0)), (V.b Bool.false), (V.s 0 0)] [(Pt.mk 0 1 (O.c (V.s 1 97))), (Pt.mk 1 1 (oN 2)), (Pt.mk 2 1 (O.c (V.b Bool.true)))])), (wB 15 (doBuild [(V.s 0 0), (V.i IntKind.i64 (Int.ofNat 0)), (V.b Bool.false), (V.s 0 0)] [(Pt.mk 0 1 (O.c (V.s 1 98))), (Pt.mk 1 1 (oN 1)), (Pt.mk 2 1 (O.c (V.b Bool.true)))])), (wB 16 (doBuildSlice 39 2 [(V.s 0 0), (V.i IntKind.i64 (Int.ofNat 0)), (V.b Bool.false), (V.s 0 0), (V.s 0 0), (V.i IntKind.i64 (Int.ofNat 0)), (V.b Bool.false), (V.s 0 0)] [(Pt.mk 0 4 (tm 14)), (Pt.mk 4 4 (tm 15))])), (wB 2 (doMove (tm 16)))]) s8_6)
noncomputable abbrev s8_8 : CC := (CC.seq (CC.region [(wB 11 (doBuild [(V.s 0 0), (V.i IntKind.i64 (Int.ofNat 0)), (V.b Bool.false), (V.s 0 0)] [(Pt.mk 0 1 (O.c (V.s 1 97))), (Pt.mk 1 1 (oN 3)), (Pt.mk 3 1 (O.c (V.s 1 122)))])), (wB 12 (doBuild [(V.s 0 0), (V.i IntKind.i64 (Int.ofNat 0)), (V.b Bool.false), (V.s 0 0)] [(Pt.mk 0 1 (O.c (V.s 1 97))), (Pt.mk 1 1 (oN 1)), (Pt.mk 3 1 (O.c (V.s 1 120)))])), (wB 13 (doBuildSlice 39 2 [(V.s 0 0), (V.i IntKind.i64 (Int.ofNat 0)), (V.b Bool.false), (V.s 0 0), (V.s 0 0), (V.i IntKind.i64 (Int.ofNat 0)), (V.b Bool.false), (V.s 0 0)] [(Pt.mk 0 4 (tm 11)), (Pt.mk 4 4 (tm 12))])), (wB 1 (doMove (tm 13)))]) s8_7)
noncomputable abbrev b8 : CC := (CC.seq (CC.region [(wB 0 (doMove (O.c (V.b Bool.false))))]) s8_8)
noncomputable abbrev s3_0 : CC := (CC.seq (CC.region [(wB 10 (doMove (O.c (V.b Bool.false))))]) CC.ret)
noncomputable abbrev s3_1 : CC := (CC.cond (tm 16) s3_0 CC.skip)
noncomputable abbrev s3_2 : CC := (CC.seq (CC.region [(wB 15 (doCall 8 [])), (wB 16 (doNot (tm 15)))]) s3_1)
noncomputable abbrev s3_3 : CC := (CC.seq (CC.region [(wB 10 (doMove (O.c (V.b Bool.true))))]) CC.ret)
noncomputable abbrev s3_4 : CC := (CC.cond (tm 29) s3_3 CC.skip)
noncomputable abbrev s3_5 : CC := (CC.seq (CC.region [(wB 17 (doMove (tm 0))), (wB 18 (doCall 9 [(tm 17)])), (wB 19 (doNot (tm 18))), (wB 20 (doMove (tm 19))), (wG 20 false 21 (doMove (tm 1))), (wG 20 false 22 (doCall 10 [(tm 21)])), (wG 20 false 23 (doNot (tm 22))), (wB 24 (doPick (tm 20) (O.c (V.b Bool.true)) (tm 23))), (wB 25 (doMove (tm 24))), (wG 25 false 26 (doMove (tm 3))), (wG 25 false 27 (doLen (tm 26))), (wG 25 false 28 (bin2 fGtr (tm 27) (oN 10))), (wB 29 (doPick (tm 25) (O.c (V.b Bool.true)) (tm 28)))]) s3_4)
noncomputable abbrev s3_6 : CC := (CC.seq (CC.region [(wB 40 (doMove (tm 11))), (wB 41 (doMove (tm 13))), (wB 42 (doCall 13 [(tm 40), (tm 41)])), (wB 43 (doMove (tm 42))), (wG 43 true 44 (doMove (tm 12))), (wG 43 true 45 (bin2 fEql (tm 44) (oN 0))), (wG 43 true 46 (doMove (tm 14))), (wG 43 true 47 (doBool Bool.false (tm 45) (tm 46))), (wB 48 (doPick (tm 43) (tm 47) (O.c (V.b Bool.false)))), (wB 49 (doMove (tm 48))), (wG 49 true 50 (doMove (tm 12))), (wG 49 true 51 (bin2 fEql (tm 50) (oN 0))), (wG 49 true 52 (doMove (tm 51))), (wG 52 false 53 (doMove (tm 12))), (wG 52 false 54 (bin2 fEql (tm 53) (oN 16))), (wG 49 true 55 (doPick (tm 52) (O.c (V.b Bool.true)) (tm 54))), (wB 56 (doPick (tm 49) (tm 55) (O.c (V.b Bool.false)))), (wB 57 (doMove (tm 56))), (wG 57 true 58 (doMove (tm 1))), (wG 57 true 59 (doMove (tm 2))), (wG 57 true 60 (doCall 14 [(tm 58), (tm 59)])), (wG 57 true 61 (doMove (tm 1))), (wG 57 true 62 (doMove (tm 2))), (wG 57 true 63 (doCall 15 [(tm 61), (tm 62)])), (wG 57 true 64 (doCall 13 [(tm 60), (tm 63)])), (wB 65 (doPick (tm 57) (tm 64) (O.c (V.b Bool.false)))), (wB 66 (doMove (tm 65))), (wG 66 true 67 (doMove (tm 1))), (wG 66 true 68 (doMove (tm 3))), (wG 66 true 69 (doMove (tm 4))), (wG 66 true 70 (doCall 16 [(tm 67), (tm 68), (tm 69)])), (wG 66 true 71 (doMove (tm 1))), (wG 66 true 72 (doMove (tm 3))), (wG 66 true 73 (doMove (tm 4))), (wG 66 true 74 (doCall 17 [(tm 71), (tm 72), (tm 73)])), (wG 66 true 75 (doCall 13 [(tm 70), (tm 74)])), (wB 76 (doPick (tm 66) (tm 75) (O.c (V.b Bool.false)))), (wB 10 (doMove (tm 76)))]) CC.ret)
noncomputable abbrev s3_7 : CC := (CC.seq (CC.region [(wB 36 (doMove (tm 0))), (wB 37 (doCall 12 [(tm 36)])), (wB 35 (doMove (tm 37))), (wB 38 (doExtract 0 (tm 35))), (wB 39 (doExtract 1 (tm 35))), (wB 13 (doMove (tm 38))), (wB 14 (doMove (tm 39)))]) s3_6)
noncomputable abbrev s3_8 : CC := (CC.seq (CC.region [(wB 31 (doMove (tm 0))), (wB 32 (doCall 11 [(tm 31)])), (wB 30 (doMove (tm 32))), (wB 33 (doExtract 0 (tm 30))), (wB 34 (doExtract 1 (tm 30))), (wB 11 (doMove (tm 33))), (wB 12 (doMove (tm 34)))]) s3_7)
noncomputable abbrev s3_9 : CC := (CC.seq s3_5 s3_8)
noncomputable abbrev s3_10 : CC := (CC.seq s3_2 s3_9)
noncomputable abbrev b3 : CC := (CC.seq (CC.region [(wB 10 (doMove (O.c (V.b Bool.false))))]) s3_10)
theorem c3 : compFn Try.prog 3 = ⟨77, b3, [(Rs.tmp (slOf 10))]⟩ := by kernel_rfl
noncomputable abbrev s4_0 : CC := (CC.seq (CC.region [(wB 6 (doMove (O.c (V.b Bool.false))))]) CC.ret)
noncomputable abbrev s4_1 : CC := (CC.cond (tm 14) s4_0 CC.skip)
noncomputable abbrev s4_2 : CC := (CC.seq (CC.region [(wB 13 (doCall 8 [])), (wB 14 (doNot (tm 13)))]) s4_1)
noncomputable abbrev s4_3 : CC := (CC.seq (CC.region [(wB 6 (doMove (O.c (V.b Bool.true))))]) CC.ret)
noncomputable abbrev s4_4 : CC := (CC.cond (tm 27) s4_3 CC.skip)
noncomputable abbrev s4_5 : CC := (CC.seq (CC.region [(wB 15 (doMove (tm 0))), (wB 16 (doCall 10 [(tm 15)])), (wB 17 (doNot (tm 16))), (wB 18 (doMove (tm 17))), (wG 18 false 19 (doMove (tm 1))), (wG 18 false 20 (doLen (tm 19))), (wG 18 false 21 (bin2 fGtr (tm 20) (oN 10))), (wB 22 (doPick (tm 18) (O.c (V.b Bool.true)) (tm 21))), (wB 23 (doMove (tm 22))), (wG 23 false 24 (doMove (tm 0))), (wG 23 false 25 (doCall 18 [(tm 24)])), (wG 23 false 26 (doNot (tm 25))), (wB 27 (doPick (tm 23) (O.c (V.b Bool.true)) (tm 26)))]) s4_4)
noncomputable abbrev s4_6 : CC := (CC.cond (tm 31) CC.skip (CC.exit 0))
noncomputable abbrev s4_7 : CC := (CC.seq (CC.region [(wB 28 (doMove (tm 7))), (wB 29 (doMove (tm 0))), (wB 30 (doLen (tm 29))), (wB 31 (bin2 fLss (tm 28) (tm 30)))]) s4_6)
noncomputable abbrev s4_8 : CC := (CC.seq (CC.region [(wB 6 (doMove (O.c (V.b Bool.true))))]) CC.ret)
noncomputable abbrev s4_9 : CC := (CC.cond (tm 39) s4_8 CC.skip)
noncomputable abbrev s4_10 : CC := (CC.seq (CC.region [(wB 34 (doMove (tm 0))), (wB 35 (doMove (tm 7))), (wB 36 (doIndexAddr 4 (tm 34) (tm 35))), (wB 37 (doLoadA 4 (tm 36))), (wB 38 (doCall 19 [(tm 37)])), (wB 39 (doNot (tm 38)))]) s4_9)
noncomputable abbrev s4_11 : CC := (CC.block 1 s4_10)
noncomputable abbrev s4_12 : CC := (CC.region [(wB 32 (doMove (tm 7))), (wB 33 (bin2 fAdd (tm 32) (oN 1))), (wB 7 (doMove (tm 33)))])
noncomputable abbrev s4_13 : CC := (CC.seq s4_11 s4_12)
noncomputable abbrev l4_0 : CC := (CC.seq s4_7 s4_13)
noncomputable abbrev s4_14 : CC := (CC.loop l4_0)
noncomputable abbrev s4_15 : CC := (CC.block 0 s4_14)
noncomputable abbrev s4_16 : CC := (CC.seq (CC.region [(wB 7 (doMove (oN 0)))]) s4_15)
noncomputable abbrev s4_17 : CC := (CC.seq (CC.region [(wB 6 (doMove (O.c (V.b Bool.false))))]) CC.ret)
noncomputable abbrev s4_18 : CC := (CC.cond (tm 61) s4_17 CC.skip)
noncomputable abbrev s4_19 : CC := (CC.seq (CC.region [(wB 44 (doMove (tm 8))), (wB 45 (doCall 18 [(tm 44)])), (wB 46 (doNot (tm 45))), (wB 47 (doMove (tm 46))), (wG 47 false 48 (doMove (tm 8))), (wG 47 false 49 (doLen (tm 48))), (wG 47 false 50 (doMove (tm 0))), (wG 47 false 51 (doLen (tm 50))), (wG 47 false 52 (bin2 fGtr (tm 49) (tm 51))), (wB 53 (doPick (tm 47) (O.c (V.b Bool.true)) (tm 52))), (wB 54 (doMove (tm 53))), (wG 54 false 55 (doMove (tm 8))), (wG 54 false 56 (doCall 14 [(tm 55), (oN 1000000)])), (wG 54 false 57 (doMove (tm 0))), (wG 54 false 58 (doCall 14 [(tm 57), (oN 1000000)])), (wG 54 false 59 (doCall 13 [(tm 56), (tm 58)])), (wG 54 false 60 (doNot (tm 59))), (wB 61 (doPick (tm 54) (O.c (V.b Bool.true)) (tm 60)))]) s4_18)
noncomputable abbrev s4_20 : CC := (CC.cond (tm 65) CC.skip (CC.exit 2))
noncomputable abbrev s4_21 : CC := (CC.seq (CC.region [(wB 62 (doMove (tm 9))), (wB 63 (doMove (tm 1))), (wB 64 (doLen (tm 63))), (wB 65 (bin2 fLss (tm 62) (tm 64)))]) s4_20)
noncomputable abbrev s4_22 : CC := (CC.seq (CC.region [(wB 6 (doMove (O.c (V.b Bool.false))))]) CC.ret)
noncomputable abbrev s4_23 : CC := (CC.cond (tm 81) s4_22 CC.skip)
noncomputable abbrev s4_24 : CC := (CC.seq (CC.draws [(uB 68 (doMove (tm 8))), (uB 69 (doMove (tm 1))), (uB 70 (doMove (tm 9))), (uB 71 (doIndexAddr 1 (tm 69) (tm 70))), (uB 72 (doLoad (tm 71))), (uB 73 (doCall 14 [(tm 68), (tm 72)])), (uB 74 (doMove (tm 0))), (uB 75 (doMove (tm 1))), (uB 76 (doMove (tm 9))), (uB 77 (doIndexAddr 1 (tm 75) (tm 76))), (uB 78 (doLoad (tm 77))), (wB 79 (doCall 14 [(tm 74), (tm 78)])), (wB 80 (doCall 13 [(tm 73), (tm 79)])), (uB 81 (doNot (tm 80)))]) s4_23)
noncomputable abbrev s4_25 : CC := (CC.block 3 s4_24)
noncomputable abbrev s4_26 : CC := (CC.region [(wB 66 (doMove (tm 9))), (wB 67 (bin2 fAdd (tm 66) (oN 1))), (wB 9 (doMove (tm 67)))])
noncomputable abbrev s4_27 : CC := (CC.seq s4_25 s4_26)
noncomputable abbrev l4_1 : CC := (CC.seq s4_21 s4_27)
noncomputable abbrev s4_28 : CC := (CC.loop l4_1)
noncomputable abbrev s4_29 : CC := (CC.block 2 s4_28)
noncomputable abbrev s4_30 : CC := (CC.seq (CC.region [(wB 9 (doMove (oN 0)))]) s4_29)
noncomputable abbrev s4_31 : CC := (CC.cond (tm 85) CC.skip (CC.exit 4))
noncomputable abbrev s4_32 : CC := (CC.seq (CC.region [(wB 82 (doMove (tm 10))), (wB 83 (doMove (tm 8))), (wB 84 (doLen (tm 83))), (wB 85 (bin2 fLss (tm 82) (tm 84)))]) s4_31)
noncomputable abbrev s4_33 : CC := (CC.seq (CC.region [(wB 6 (doMove (O.c (V.b Bool.false))))]) CC.ret)
noncomputable abbrev s4_34 : CC := (CC.cond (tm 112) s4_33 CC.skip)
noncomputable abbrev s4_35 : CC := (CC.seq (CC.draws [(uB 103 (doMove (tm 12))), (uB 104 (doNot (tm 103))), (uB 105 (doMove (tm 104))), (uG 105 false 106 (doLoadA 4 (tm 11))), (uG 105 false 107 (doMove (tm 8))), (uG 105 false 108 (doMove (tm 10))), (uG 105 false 109 (doIndexAddr 4 (tm 107) (tm 108))), (uG 105 false 110 (doLoadA 4 (tm 109))), (uG 105 false 111 (doSEq [KD.s, KD.i, KD.b, KD.s] Bool.true (tm 106) (tm 110))), (uB 112 (doPick (tm 105) (O.c (V.b Bool.true)) (tm 111)))]) s4_34)
noncomputable abbrev s4_36 : CC := (CC.seq (CC.draws [(uB 89 (doMove (tm 0))), (uB 90 (doMove (tm 8))), (uB 91 (doMove (tm 10))), (uB 92 (doIndexAddr 4 (tm 90) (tm 91))), (uB 93 (doFieldAddr 0 (tm 92))), (uB 94 (doLoad (tm 93))), (uB 95 (doMove (tm 8))), (uB 96 (doMove (tm 10))), (uB 97 (doIndexAddr 4 (tm 95) (tm 96))), (uB 98 (doFieldAddr 1 (tm 97))), (uB 99 (doLoad (tm 98))), (uB 100 (doCall 20 [(tm 89), (tm 94), (tm 99)])), (uB 88 (doMove (tm 100))), (uB 101 (doExtract 0 (tm 88))), (uB 102 (doExtract 1 (tm 88))), (uB 11 (doAlloc 39 [(V.s 0 0), (V.i IntKind.i64 (Int.ofNat 0)), (V.b Bool.false), (V.s 0 0)])), (CO.mk G.none D.none Bool.true (CR.mk (doStore 4 (tm 11) (tm 101)))), (uB 12 (doMove (tm 102)))]) s4_35)
noncomputable abbrev s4_37 : CC := (CC.block 5 s4_36)
noncomputable abbrev s4_38 : CC := (CC.region [(wB 86 (doMove (tm 10))), (wB 87 (bin2 fAdd (tm 86) (oN 1))), (wB 10 (doMove (tm 87)))])
noncomputable abbrev s4_39 : CC := (CC.seq s4_37 s4_38)
noncomputable abbrev l4_2 : CC := (CC.seq s4_32 s4_39)
noncomputable abbrev s4_40 : CC := (CC.loop l4_2)
noncomputable abbrev s4_41 : CC := (CC.block 4 s4_40)
noncomputable abbrev s4_42 : CC := (CC.seq (CC.region [(wB 10 (doMove (oN 0)))]) s4_41)
noncomputable abbrev s4_43 : CC := (CC.seq (CC.region [(wB 6 (doMove (O.c (V.b Bool.true))))]) CC.ret)
noncomputable abbrev s4_44 : CC := (CC.seq s4_42 s4_43)
noncomputable abbrev s4_45 : CC := (CC.seq s4_30 s4_44)
noncomputable abbrev s4_46 : CC := (CC.seq s4_19 s4_45)
noncomputable abbrev s4_47 : CC := (CC.seq (CC.region [(wB 40 (doMove (tm 0))), (wB 41 (doMove (tm 1))), (wB 42 (doMove (tm 2))), (wB 43 (doCall 16 [(tm 40), (tm 41), (tm 42)])), (wB 8 (doMove (tm 43)))]) s4_46)
noncomputable abbrev s4_48 : CC := (CC.seq s4_16 s4_47)
noncomputable abbrev s4_49 : CC := (CC.seq s4_5 s4_48)
noncomputable abbrev s4_50 : CC := (CC.seq s4_2 s4_49)
noncomputable abbrev b4 : CC := (CC.seq (CC.region [(wB 6 (doMove (O.c (V.b Bool.false))))]) s4_50)
theorem c4 : compFn Try.prog 4 = ⟨113, b4, [(Rs.tmp (slOf 6))]⟩ := by kernel_rfl
noncomputable abbrev s5_0 : CC := (CC.seq (CC.region [(wB 4 (doMove (O.c (V.b Bool.false))))]) CC.ret)
noncomputable abbrev s5_1 : CC := (CC.cond (tm 13) s5_0 CC.skip)
noncomputable abbrev s5_2 : CC := (CC.seq (CC.region [(wB 12 (doCall 8 [])), (wB 13 (doNot (tm 12)))]) s5_1)
noncomputable abbrev s5_3 : CC := (CC.seq (CC.region [(wB 4 (doMove (O.c (V.b Bool.true))))]) CC.ret)
noncomputable abbrev s5_4 : CC := (CC.cond (tm 26) s5_3 CC.skip)
noncomputable abbrev s5_5 : CC := (CC.seq (CC.region [(wB 14 (doMove (tm 0))), (wB 15 (doCall 10 [(tm 14)])), (wB 16 (doNot (tm 15))), (wB 17 (doMove (tm 16))), (wG 17 false 18 (doMove (tm 1))), (wG 17 false 19 (doLen (tm 18))), (wG 17 false 20 (bin2 fGtr (tm 19) (oN 60))), (wB 21 (doPick (tm 17) (O.c (V.b Bool.true)) (tm 20))), (wB 22 (doMove (tm 21))), (wG 22 false 23 (doMove (tm 0))), (wG 22 false 24 (doCall 18 [(tm 23)])), (wG 22 false 25 (doNot (tm 24))), (wB 26 (doPick (tm 22) (O.c (V.b Bool.true)) (tm 25)))]) s5_4)
noncomputable abbrev s5_6 : CC := (CC.cond (tm 30) CC.skip (CC.exit 0))
noncomputable abbrev s5_7 : CC := (CC.seq (CC.region [(wB 27 (doMove (tm 7))), (wB 28 (doMove (tm 0))), (wB 29 (doLen (tm 28))), (wB 30 (bin2 fLss (tm 27) (tm 29)))]) s5_6)
noncomputable abbrev s5_8 : CC := (CC.region [(wB 43 (doMove (tm 5))), (wB 44 (doMove (tm 0))), (wB 45 (doMove (tm 7))), (wB 46 (doIndexAddr 4 (tm 44) (tm 45))), (wB 47 (doLoadA 4 (tm 46))), (wB 48 (doBuildSlice 39 1 [(V.s 0 0), (V.i IntKind.i64 (Int.ofNat 0)), (V.b Bool.false), (V.s 0 0)] [(Pt.mk 0 4 (tm 47))])), (wB 49 (doAppend 39 4 (tm 43) (tm 48))), (wB 5 (doMove (tm 49)))])
noncomputable abbrev s5_9 : CC := (CC.region [(wB 50 (doMove (tm 6))), (wB 51 (doMove (tm 0))), (wB 52 (doMove (tm 7))), (wB 53 (doIndexAddr 4 (tm 51) (tm 52))), (wB 54 (doLoadA 4 (tm 53))), (wB 55 (doBuildSlice 39 1 [(V.s 0 0), (V.i IntKind.i64 (Int.ofNat 0)), (V.b Bool.false), (V.s 0 0)] [(Pt.mk 0 4 (tm 54))])), (wB 56 (doAppend 39 4 (tm 50) (tm 55))), (wB 6 (doMove (tm 56)))])
noncomputable abbrev s5_10 : CC := (CC.cond (tm 42) s5_8 s5_9)
noncomputable abbrev s5_11 : CC := (CC.seq (CC.region [(wB 33 (doMove (tm 7))), (wB 34 (doMove (tm 1))), (wB 35 (doLen (tm 34))), (wB 36 (bin2 fLss (tm 33) (tm 35))), (wB 37 (doMove (tm 36))), (wG 37 true 38 (doMove (tm 1))), (wG 37 true 39 (doMove (tm 7))), (wG 37 true 40 (doIndexAddr 1 (tm 38) (tm 39))), (wG 37 true 41 (doLoad (tm 40))), (wB 42 (doPick (tm 37) (tm 41) (O.c (V.b Bool.false))))]) s5_10)
noncomputable abbrev s5_12 : CC := (CC.block 1 s5_11)
noncomputable abbrev s5_13 : CC := (CC.region [(wB 31 (doMove (tm 7))), (wB 32 (bin2 fAdd (tm 31) (oN 1))), (wB 7 (doMove (tm 32)))])
noncomputable abbrev s5_14 : CC := (CC.seq s5_12 s5_13)
noncomputable abbrev l5_0 : CC := (CC.seq s5_7 s5_14)
noncomputable abbrev s5_15 : CC := (CC.loop l5_0)
noncomputable abbrev s5_16 : CC := (CC.block 0 s5_15)
noncomputable abbrev s5_17 : CC := (CC.seq (CC.region [(wB 7 (doMove (oN 0)))]) s5_16)
noncomputable abbrev s5_18 : CC := (CC.seq (CC.region [(wB 72 (doMove (tm 9))), (wB 73 (bin2 fEql (tm 72) (oN 0))), (wB 74 (doMove (tm 73))), (wG 74 true 75 (doMove (tm 11))), (wG 74 true 76 (bin2 fEql (tm 75) (oN 0))), (wB 77 (doPick (tm 74) (tm 76) (O.c (V.b Bool.false)))), (wB 78 (doMove (tm 77))), (wG 78 true 79 (doMove (tm 8))), (wG 78 true 80 (doMove (tm 0))), (wG 78 true 81 (doCall 13 [(tm 79), (tm 80)])), (wB 82 (doPick (tm 78) (tm 81) (O.c (V.b Bool.false)))), (wB 83 (doMove (tm 82))), (wG 83 true 84 (doMove (tm 10))), (wG 83 true 85 (doMove (tm 0))), (wG 83 true 86 (doCall 13 [(tm 84), (tm 85)])), (wB 87 (doPick (tm 83) (tm 86) (O.c (V.b Bool.false)))), (wB 4 (doMove (tm 87)))]) CC.ret)
noncomputable abbrev s5_19 : CC := (CC.seq (CC.region [(wB 65 (doMove (tm 0))), (wB 66 (doMove (tm 5))), (wB 67 (doMove (tm 0))), (wB 68 (doBuildSlice 23 3 [V.l0, V.l0, V.l0] [(Pt.mk 0 1 (tm 65)), (Pt.mk 1 1 (tm 66)), (Pt.mk 2 1 (tm 67))])), (wB 69 (doCall 11 [(tm 68)])), (wB 64 (doMove (tm 69))), (wB 70 (doExtract 0 (tm 64))), (wB 71 (doExtract 1 (tm 64))), (wB 10 (doMove (tm 70))), (wB 11 (doMove (tm 71)))]) s5_18)
noncomputable abbrev s5_20 : CC := (CC.seq (CC.region [(wB 58 (doMove (tm 5))), (wB 59 (doMove (tm 6))), (wB 60 (doBuildSlice 23 2 [V.l0, V.l0] [(Pt.mk 0 1 (tm 58)), (Pt.mk 1 1 (tm 59))])), (wB 61 (doCall 11 [(tm 60)])), (wB 57 (doMove (tm 61))), (wB 62 (doExtract 0 (tm 57))), (wB 63 (doExtract 1 (tm 57))), (wB 8 (doMove (tm 62))), (wB 9 (doMove (tm 63)))]) s5_19)
noncomputable abbrev s5_21 : CC := (CC.seq s5_17 s5_20)
noncomputable abbrev s5_22 : CC := (CC.seq (CC.region [(wB 5 (doMove (O.c V.l0))), (wB 6 (doMove (O.c V.l0)))]) s5_21)
noncomputable abbrev s5_23 : CC := (CC.seq s5_5 s5_22)
noncomputable abbrev s5_24 : CC := (CC.seq s5_2 s5_23)
noncomputable abbrev b5 : CC := (CC.seq (CC.region [(wB 4 (doMove (O.c (V.b Bool.false))))]) s5_24)
theorem c5 : compFn Try.prog 5 = ⟨88, b5, [(Rs.tmp (slOf 4))]⟩ := by kernel_rfl
noncomputable abbrev s6_0 : CC := (CC.seq (CC.region [(wB 8 (doMove (O.c (V.b Bool.false))))]) CC.ret)
noncomputable abbrev s6_1 : CC := (CC.cond (tm 21) s6_0 CC.skip)
noncomputable abbrev s6_2 : CC := (CC.seq (CC.region [(wB 20 (doCall 8 [])), (wB 21 (doNot (tm 20)))]) s6_1)
noncomputable abbrev s6_3 : CC := (CC.seq (CC.region [(wB 8 (doMove (O.c (V.b Bool.true))))]) CC.ret)
noncomputable abbrev s6_4 : CC := (CC.cond (tm 24) s6_3 CC.skip)
noncomputable abbrev s6_5 : CC := (CC.seq (CC.region [(wB 22 (doMove (tm 1))), (wB 23 (doLen (tm 22))), (wB 24 (bin2 fGtr (tm 23) (oN 10)))]) s6_4)
noncomputable abbrev s6_6 : CC := (CC.cond (tm 34) CC.skip (CC.exit 0))
noncomputable abbrev s6_7 : CC := (CC.seq (CC.region [(wB 33 (doMove (tm 13))), (wB 34 (bin2 fGeq (tm 33) (oN 1)))]) s6_6)
noncomputable abbrev s6_8 : CC := (CC.region [(wB 37 (doMove (tm 10))), (wB 38 (doMove (tm 13))), (wB 39 (doMove (tm 2))), (wB 40 (doMove (tm 13))), (wB 41 (doConv IntKind.u64 (tm 40))), (wB 42 (doShift shrF (tm 39) (tm 41))), (wB 43 (bin2 fAnd (tm 42) (O.c (V.i IntKind.u32 (Int.ofNat 1))))), (wB 44 (bin2 fEql (tm 43) (O.c (V.i IntKind.u32 (Int.ofNat 1))))), (wB 45 (doBuild [(V.s 0 0), (V.i IntKind.i64 (Int.ofNat 0)), (V.b Bool.false), (V.s 0 0)] [(Pt.mk 0 1 (O.c (V.s 1 107))), (Pt.mk 1 1 (tm 38)), (Pt.mk 2 1 (tm 44))])), (wB 46 (doBuildSlice 39 1 [(V.s 0 0), (V.i IntKind.i64 (Int.ofNat 0)), (V.b Bool.false), (V.s 0 0)] [(Pt.mk 0 4 (tm 45))])), (wB 47 (doAppend 39 4 (tm 37) (tm 46))), (wB 10 (doMove (tm 47)))])
noncomputable abbrev s6_9 : CC := (CC.block 1 s6_8)
noncomputable abbrev s6_10 : CC := (CC.region [(wB 35 (doMove (tm 13))), (wB 36 (bin2 fSub (tm 35) (oN 1))), (wB 13 (doMove (tm 36)))])
noncomputable abbrev s6_11 : CC := (CC.seq s6_9 s6_10)
noncomputable abbrev l6_0 : CC := (CC.seq s6_7 s6_11)
noncomputable abbrev s6_12 : CC := (CC.loop l6_0)
noncomputable abbrev s6_13 : CC := (CC.block 0 s6_12)
noncomputable abbrev s6_14 : CC := (CC.seq (CC.region [(wB 32 (doMove (tm 9))), (wB 13 (doMove (tm 32)))]) s6_13)
noncomputable abbrev s6_15 : CC := (CC.cond (tm 54) CC.skip (CC.exit 2))
noncomputable abbrev s6_16 : CC := (CC.seq (CC.region [(wB 51 (doMove (tm 14))), (wB 52 (doMove (tm 1))), (wB 53 (doLen (tm 52))), (wB 54 (bin2 fLss (tm 51) (tm 53)))]) s6_15)
noncomputable abbrev s6_17 : CC := (CC.region [(wB 67 (doMove (tm 11))), (wB 68 (doMove (tm 15))), (wB 69 (doMove (tm 9))), (wB 70 (doMin (tm 68) (tm 69))), (wB 71 (doIndexAddr 1 (tm 67) (tm 70))), (CO.mk G.none D.none Bool.true (CR.mk (doStore 1 (tm 71) (O.c (V.b Bool.true)))))])
noncomputable abbrev s6_18 : CC := (CC.seq (CC.region [(wB 63 (doMove (tm 12))), (wB 64 (doMove (tm 15))), (wB 65 (doBuildSlice 3 1 [(V.i IntKind.i64 (Int.ofNat 0))] [(Pt.mk 0 1 (tm 64))])), (wB 66 (doAppend 3 1 (tm 63) (tm 65))), (wB 12 (doMove (tm 66)))]) s6_17)
noncomputable abbrev s6_19 : CC := (CC.seq (CC.region [(wB 57 (doMove (tm 1))), (wB 58 (doMove (tm 14))), (wB 59 (doIndexAddr 1 (tm 57) (tm 58))), (wB 60 (doLoad (tm 59))), (wB 61 (doRem (tm 60) (O.c (V.i IntKind.u8 (Int.ofNat 25))))), (wB 62 (doConv IntKind.i64 (tm 61))), (wB 15 (doMove (tm 62)))]) s6_18)
noncomputable abbrev s6_20 : CC := (CC.block 3 s6_19)
noncomputable abbrev s6_21 : CC := (CC.region [(wB 55 (doMove (tm 14))), (wB 56 (bin2 fAdd (tm 55) (oN 1))), (wB 14 (doMove (tm 56)))])
noncomputable abbrev s6_22 : CC := (CC.seq s6_20 s6_21)
noncomputable abbrev l6_1 : CC := (CC.seq s6_16 s6_22)
noncomputable abbrev s6_23 : CC := (CC.loop l6_1)
noncomputable abbrev s6_24 : CC := (CC.block 2 s6_23)
noncomputable abbrev s6_25 : CC := (CC.seq (CC.region [(wB 14 (doMove (oN 0)))]) s6_24)
noncomputable abbrev s6_26 : CC := (CC.cond (tm 79) CC.skip (CC.exit 4))
noncomputable abbrev s6_27 : CC := (CC.seq (CC.region [(wB 74 (doMove (tm 16))), (wB 75 (doMove (tm 9))), (wB 76 (bin2 fLeq (tm 74) (tm 75))), (wB 77 (doMove (tm 76))), (wG 77 true 78 (doMove (tm 3))), (wB 79 (doPick (tm 77) (tm 78) (O.c (V.b Bool.false))))]) s6_26)
noncomputable abbrev s6_28 : CC := (CC.cond (tm 86) (CC.exit 5) CC.skip)
noncomputable abbrev s6_29 : CC := (CC.seq (CC.region [(wB 82 (doMove (tm 11))), (wB 83 (doMove (tm 16))), (wB 84 (doIndexAddr 1 (tm 82) (tm 83))), (wB 85 (doLoad (tm 84))), (wB 86 (doNot (tm 85)))]) s6_28)
noncomputable abbrev s6_30 : CC := (CC.cond (tm 92) (CC.exit 4) CC.skip)
noncomputable abbrev s6_31 : CC := (CC.seq (CC.region [(wB 87 (doMove (tm 2))), (wB 88 (doMove (tm 16))), (wB 89 (doConv IntKind.u64 (tm 88))), (wB 90 (doShift shrF (tm 87) (tm 89))), (wB 91 (bin2 fAnd (tm 90) (O.c (V.i IntKind.u32 (Int.ofNat 1))))), (wB 92 (bin2 fEql (tm 91) (O.c (V.i IntKind.u32 (Int.ofNat 0)))))]) s6_30)
noncomputable abbrev s6_32 : CC := (CC.region [(wB 93 (doMove (tm 11))), (wB 94 (doMove (tm 16))), (wB 95 (doIndexAddr 1 (tm 93) (tm 94))), (CO.mk G.none D.none Bool.true (CR.mk (doStore 1 (tm 95) (O.c (V.b Bool.false)))))])
noncomputable abbrev s6_33 : CC := (CC.seq s6_31 s6_32)
noncomputable abbrev s6_34 : CC := (CC.seq s6_29 s6_33)
noncomputable abbrev s6_35 : CC := (CC.block 5 s6_34)
noncomputable abbrev s6_36 : CC := (CC.region [(wB 80 (doMove (tm 16))), (wB 81 (bin2 fAdd (tm 80) (oN 1))), (wB 16 (doMove (tm 81)))])
noncomputable abbrev s6_37 : CC := (CC.seq s6_35 s6_36)
noncomputable abbrev l6_2 : CC := (CC.seq s6_27 s6_37)
noncomputable abbrev s6_38 : CC := (CC.loop l6_2)
noncomputable abbrev s6_39 : CC := (CC.block 4 s6_38)
noncomputable abbrev s6_40 : CC := (CC.seq (CC.region [(wB 16 (doMove (oN 1)))]) s6_39)
noncomputable abbrev s6_41 : CC := (CC.cond (tm 102) CC.skip (CC.exit 6))
noncomputable abbrev s6_42 : CC := (CC.seq (CC.region [(wB 101 (doMove (tm 19))), (wB 102 (bin2 fGeq (tm 101) (oN 1)))]) s6_41)
noncomputable abbrev s6_43 : CC := (CC.cond (tm 109) (CC.exit 7) CC.skip)
noncomputable abbrev s6_44 : CC := (CC.seq (CC.region [(wB 105 (doMove (tm 11))), (wB 106 (doMove (tm 19))), (wB 107 (doIndexAddr 1 (tm 105) (tm 106))), (wB 108 (doLoad (tm 107))), (wB 109 (doNot (tm 108)))]) s6_43)
noncomputable abbrev s6_45 : CC := (CC.seq (CC.region [(wB 8 (doMove (O.c (V.b Bool.false))))]) CC.ret)
noncomputable abbrev s6_46 : CC := (CC.cond (tm 122) s6_45 CC.skip)
noncomputable abbrev s6_47 : CC := (CC.seq (CC.region [(wB 110 (doMove (tm 18))), (wB 111 (doMove (tm 17))), (wB 112 (doLen (tm 111))), (wB 113 (bin2 fGeq (tm 110) (tm 112))), (wB 114 (doMove (tm 113))), (wG 114 false 115 (doMove (tm 17))), (wG 114 false 116 (doMove (tm 18))), (wG 114 false 117 (doIndexAddr 4 (tm 115) (tm 116))), (wG 114 false 118 (doFieldAddr 1 (tm 117))), (wG 114 false 119 (doLoad (tm 118))), (wG 114 false 120 (doMove (tm 19))), (wG 114 false 121 (bin2 fNeq (tm 119) (tm 120))), (wB 122 (doPick (tm 114) (O.c (V.b Bool.true)) (tm 121)))]) s6_46)
noncomputable abbrev s6_48 : CC := (CC.region [(wB 123 (doMove (tm 18))), (wB 124 (bin2 fAdd (tm 123) (oN 1))), (wB 18 (doMove (tm 124)))])
noncomputable abbrev s6_49 : CC := (CC.seq s6_47 s6_48)
noncomputable abbrev s6_50 : CC := (CC.seq s6_44 s6_49)
noncomputable abbrev s6_51 : CC := (CC.block 7 s6_50)
noncomputable abbrev s6_52 : CC := (CC.region [(wB 103 (doMove (tm 19))), (wB 104 (bin2 fSub (tm 103) (oN 1))), (wB 19 (doMove (tm 104)))])
noncomputable abbrev s6_53 : CC := (CC.seq s6_51 s6_52)
noncomputable abbrev l6_3 : CC := (CC.seq s6_42 s6_53)
noncomputable abbrev s6_54 : CC := (CC.loop l6_3)
noncomputable abbrev s6_55 : CC := (CC.block 6 s6_54)
noncomputable abbrev s6_56 : CC := (CC.seq (CC.region [(wB 100 (doMove (tm 9))), (wB 19 (doMove (tm 100)))]) s6_55)
noncomputable abbrev s6_57 : CC := (CC.seq (CC.region [(wB 125 (doMove (tm 18))), (wB 126 (doMove (tm 17))), (wB 127 (doLen (tm 126))), (wB 128 (bin2 fEql (tm 125) (tm 127))), (wB 8 (doMove (tm 128)))]) CC.ret)
noncomputable abbrev s6_58 : CC := (CC.seq s6_56 s6_57)
noncomputable abbrev s6_59 : CC := (CC.seq (CC.region [(wB 18 (doMove (oN 0)))]) s6_58)
noncomputable abbrev s6_60 : CC := (CC.seq (CC.region [(wB 96 (doMove (tm 10))), (wB 97 (doMove (tm 12))), (wB 98 (doMove (tm 3))), (wB 99 (doCall 16 [(tm 96), (tm 97), (tm 98)])), (wB 17 (doMove (tm 99)))]) s6_59)
noncomputable abbrev s6_61 : CC := (CC.seq s6_40 s6_60)
noncomputable abbrev s6_62 : CC := (CC.seq (CC.region [(wB 72 (doMove (tm 11))), (wB 73 (doIndexAddr 1 (tm 72) (oN 0))), (CO.mk G.none D.none Bool.true (CR.mk (doStore 1 (tm 73) (O.c (V.b Bool.false)))))]) s6_61)
noncomputable abbrev s6_63 : CC := (CC.seq s6_25 s6_62)
noncomputable abbrev s6_64 : CC := (CC.seq (CC.region [(wB 48 (doMove (tm 11))), (wB 49 (doMove (tm 9))), (wB 50 (doIndexAddr 1 (tm 48) (tm 49))), (CO.mk G.none D.none Bool.true (CR.mk (doStore 1 (tm 50) (O.c (V.b Bool.true)))))]) s6_63)
noncomputable abbrev s6_65 : CC := (CC.seq s6_14 s6_64)
noncomputable abbrev s6_66 : CC := (CC.seq (CC.region [(wB 12 (doMove (O.c V.l0)))]) s6_65)
noncomputable abbrev s6_67 : CC := (CC.seq (CC.region [(wB 29 (doMove (tm 9))), (wB 30 (bin2 fAdd (tm 29) (oN 1))), (wB 31 (doMakeSlice 4 [(V.b Bool.false)] (tm 30) (tm 30))), (wB 11 (doMove (tm 31)))]) s6_66)
noncomputable abbrev s6_68 : CC := (CC.seq (CC.region [(wB 10 (doMove (O.c V.l0)))]) s6_67)
noncomputable abbrev s6_69 : CC := (CC.seq (CC.region [(wB 25 (doMove (tm 0))), (wB 26 (doRem (tm 25) (O.c (V.i IntKind.u8 (Int.ofNat 20))))), (wB 27 (doConv IntKind.i64 (tm 26))), (wB 28 (bin2 fAdd (tm 27) (oN 1))), (wB 9 (doMove (tm 28)))]) s6_68)
noncomputable abbrev s6_70 : CC := (CC.seq s6_5 s6_69)
noncomputable abbrev s6_71 : CC := (CC.seq s6_2 s6_70)
noncomputable abbrev b6 : CC := (CC.seq (CC.region [(wB 8 (doMove (O.c (V.b Bool.false))))]) s6_71)
theorem c6 : compFn Try.prog 6 = ⟨129, b6, [(Rs.tmp (slOf 8))]⟩ := by kernel_rfl
noncomputable abbrev s7_0 : CC := (CC.seq (CC.region [(wB 6 (doMove (O.c (V.b Bool.false))))]) CC.ret)
noncomputable abbrev s7_1 : CC := (CC.cond (tm 18) s7_0 CC.skip)
noncomputable abbrev s7_2 : CC := (CC.seq (CC.region [(wB 17 (doCall 8 [])), (wB 18 (doNot (tm 17)))]) s7_1)
noncomputable abbrev s7_3 : CC := (CC.seq (CC.region [(wB 6 (doMove (O.c (V.b Bool.true))))]) CC.ret)
noncomputable abbrev s7_4 : CC := (CC.cond (tm 26) s7_3 CC.skip)
noncomputable abbrev s7_5 : CC := (CC.seq (CC.region [(wB 19 (doMove (tm 0))), (wB 20 (doLen (tm 19))), (wB 21 (bin2 fGtr (tm 20) (oN 30))), (wB 22 (doMove (tm 21))), (wG 22 false 23 (doMove (tm 1))), (wG 22 false 24 (doLen (tm 23))), (wG 22 false 25 (bin2 fGtr (tm 24) (oN 30))), (wB 26 (doPick (tm 22) (O.c (V.b Bool.true)) (tm 25)))]) s7_4)
noncomputable abbrev s7_6 : CC := (CC.cond (tm 30) CC.skip (CC.exit 0))
noncomputable abbrev s7_7 : CC := (CC.seq (CC.region [(wB 27 (doMove (tm 8))), (wB 28 (doMove (tm 0))), (wB 29 (doLen (tm 28))), (wB 30 (bin2 fLss (tm 27) (tm 29)))]) s7_6)
noncomputable abbrev s7_8 : CC := (CC.region [(wB 33 (doMove (tm 0))), (wB 34 (doMove (tm 8))), (wB 35 (doIndexAddr 1 (tm 33) (tm 34))), (wB 36 (doLoad (tm 35))), (wB 37 (doRem (tm 36) (O.c (V.i IntKind.u8 (Int.ofNat 26))))), (wB 38 (doIndexAddrArr 2 26 (tm 7) (oN 0))), (wB 39 (doIndexAddrArr 26 1 (tm 38) (tm 37))), (CO.mk G.none D.none Bool.true (CR.mk (doStore 1 (tm 39) (O.c (V.b Bool.true)))))])
noncomputable abbrev s7_9 : CC := (CC.block 1 s7_8)
noncomputable abbrev s7_10 : CC := (CC.region [(wB 31 (doMove (tm 8))), (wB 32 (bin2 fAdd (tm 31) (oN 1))), (wB 8 (doMove (tm 32)))])
noncomputable abbrev s7_11 : CC := (CC.seq s7_9 s7_10)
noncomputable abbrev l7_0 : CC := (CC.seq s7_7 s7_11)
noncomputable abbrev s7_12 : CC := (CC.loop l7_0)
noncomputable abbrev s7_13 : CC := (CC.block 0 s7_12)
noncomputable abbrev s7_14 : CC := (CC.seq (CC.region [(wB 8 (doMove (oN 0)))]) s7_13)
noncomputable abbrev s7_15 : CC := (CC.cond (tm 43) CC.skip (CC.exit 2))
noncomputable abbrev s7_16 : CC := (CC.seq (CC.region [(wB 40 (doMove (tm 9))), (wB 41 (doMove (tm 1))), (wB 42 (doLen (tm 41))), (wB 43 (bin2 fLss (tm 40) (tm 42)))]) s7_15)
noncomputable abbrev s7_17 : CC := (CC.region [(wB 46 (doMove (tm 1))), (wB 47 (doMove (tm 9))), (wB 48 (doIndexAddr 1 (tm 46) (tm 47))), (wB 49 (doLoad (tm 48))), (wB 50 (doRem (tm 49) (O.c (V.i IntKind.u8 (Int.ofNat 26))))), (wB 51 (doIndexAddrArr 2 26 (tm 7) (oN 1))), (wB 52 (doIndexAddrArr 26 1 (tm 51) (tm 50))), (CO.mk G.none D.none Bool.true (CR.mk (doStore 1 (tm 52) (O.c (V.b Bool.true)))))])
noncomputable abbrev s7_18 : CC := (CC.block 3 s7_17)
noncomputable abbrev s7_19 : CC := (CC.region [(wB 44 (doMove (tm 9))), (wB 45 (bin2 fAdd (tm 44) (oN 1))), (wB 9 (doMove (tm 45)))])
noncomputable abbrev s7_20 : CC := (CC.seq s7_18 s7_19)
noncomputable abbrev l7_1 : CC := (CC.seq s7_16 s7_20)
noncomputable abbrev s7_21 : CC := (CC.loop l7_1)
noncomputable abbrev s7_22 : CC := (CC.block 2 s7_21)
noncomputable abbrev s7_23 : CC := (CC.seq (CC.region [(wB 9 (doMove (oN 0)))]) s7_22)
noncomputable abbrev s7_24 : CC := (CC.cond (tm 54) CC.skip (CC.exit 4))
noncomputable abbrev s7_25 : CC := (CC.seq (CC.region [(wB 53 (doMove (tm 13))), (wB 54 (bin2 fLss (tm 53) (oN 26)))]) s7_24)
noncomputable abbrev s7_26 : CC := (CC.cond (tm 58) CC.skip (CC.exit 6))
noncomputable abbrev s7_27 : CC := (CC.seq (CC.region [(wB 57 (doMove (tm 14))), (wB 58 (bin2 fLss (tm 57) (oN 2)))]) s7_26)
noncomputable abbrev s7_28 : CC := (CC.region [(wB 84 (doMove (tm 11))), (wB 85 (bin2 fAdd (tm 84) (oN 1))), (wB 11 (doMove (tm 85)))])
noncomputable abbrev s7_29 : CC := (CC.seq (CC.draws [(uB 66 (doMove (tm 14))), (uB 67 (doMove (tm 14))), (uB 68 (doIndexAddrArr 2 1 (tm 10) (tm 67))), (uB 69 (doLoad (tm 68))), (uB 70 (doMove (tm 13))), (uB 71 (bin2 fAdd (oN 97) (tm 70))), (uB 72 (doConv IntKind.u8 (tm 71))), (uB 73 (doBuildSlice 5 1 [(V.i IntKind.u8 (Int.ofNat 0))] [(Pt.mk 0 1 (tm 72))])), (uB 74 (doB2S (tm 73))), (uB 75 (doMove (tm 13))), (uB 76 (bin2 fAdd (tm 75) (oN 1))), (uB 77 (doMove (tm 14))), (uB 78 (bin2 fMul (oN 100) (tm 77))), (uB 79 (bin2 fAdd (tm 76) (tm 78))), (uB 80 (doBuild [(V.s 0 0), (V.i IntKind.i64 (Int.ofNat 0)), (V.b Bool.false), (V.s 0 0)] [(Pt.mk 0 1 (tm 74)), (Pt.mk 1 1 (tm 79))])), (uB 81 (doBuildSlice 39 1 [(V.s 0 0), (V.i IntKind.i64 (Int.ofNat 0)), (V.b Bool.false), (V.s 0 0)] [(Pt.mk 0 4 (tm 80))])), (wB 82 (doAppend 39 4 (tm 69) (tm 81))), (uB 83 (doIndexAddrArr 2 1 (tm 10) (tm 66))), (CO.mk G.none D.none Bool.true (CR.mk (doStore 1 (tm 83) (tm 82))))]) s7_28)
noncomputable abbrev s7_30 : CC := (CC.cond (tm 65) s7_29 CC.skip)
noncomputable abbrev s7_31 : CC := (CC.seq (CC.region [(wB 61 (doMove (tm 14))), (wB 62 (doMove (tm 13))), (wB 63 (doIndexAddrArr 2 26 (tm 7) (tm 61))), (wB 64 (doIndexAddrArr 26 1 (tm 63) (tm 62))), (wB 65 (doLoad (tm 64)))]) s7_30)
noncomputable abbrev s7_32 : CC := (CC.block 7 s7_31)
noncomputable abbrev s7_33 : CC := (CC.region [(wB 59 (doMove (tm 14))), (wB 60 (bin2 fAdd (tm 59) (oN 1))), (wB 14 (doMove (tm 60)))])
noncomputable abbrev s7_34 : CC := (CC.seq s7_32 s7_33)
noncomputable abbrev l7_2 : CC := (CC.seq s7_27 s7_34)
noncomputable abbrev s7_35 : CC := (CC.loop l7_2)
noncomputable abbrev s7_36 : CC := (CC.block 6 s7_35)
noncomputable abbrev s7_37 : CC := (CC.seq (CC.region [(wB 14 (doMove (oN 0)))]) s7_36)
noncomputable abbrev s7_38 : CC := (CC.region [(wB 110 (doMove (tm 12))), (wB 111 (bin2 fAdd (tm 110) (oN 1))), (wB 12 (doMove (tm 111)))])
noncomputable abbrev s7_39 : CC := (CC.cond (tm 109) s7_38 CC.skip)
noncomputable abbrev s7_40 : CC := (CC.seq (CC.region [(wB 86 (doMove (tm 13))), (wB 87 (doIndexAddrArr 2 26 (tm 7) (oN 0))), (wB 88 (doIndexAddrArr 26 1 (tm 87) (tm 86))), (wB 89 (doLoad (tm 88))), (wB 90 (doMove (tm 89))), (wG 90 true 91 (doMove (tm 13))), (wG 90 true 92 (bin2 fAdd (tm 91) (oN 1))), (wG 90 true 93 (doMove (tm 2))), (wG 90 true 94 (doConv IntKind.i64 (tm 93))), (wG 90 true 95 (bin2 fLeq (tm 92) (tm 94))), (wB 96 (doPick (tm 90) (tm 95) (O.c (V.b Bool.false)))), (wB 97 (doMove (tm 96))), (wG 97 false 98 (doMove (tm 13))), (wG 97 false 99 (doIndexAddrArr 2 26 (tm 7) (oN 1))), (wG 97 false 100 (doIndexAddrArr 26 1 (tm 99) (tm 98))), (wG 97 false 101 (doLoad (tm 100))), (wG 97 false 102 (doMove (tm 101))), (wG 102 true 103 (doMove (tm 13))), (wG 102 true 104 (bin2 fAdd (tm 103) (oN 101))), (wG 102 true 105 (doMove (tm 2))), (wG 102 true 106 (doConv IntKind.i64 (tm 105))), (wG 102 true 107 (bin2 fLeq (tm 104) (tm 106))), (wG 97 false 108 (doPick (tm 102) (tm 107) (O.c (V.b Bool.false)))), (wB 109 (doPick (tm 97) (O.c (V.b Bool.true)) (tm 108)))]) s7_39)
noncomputable abbrev s7_41 : CC := (CC.seq s7_37 s7_40)
noncomputable abbrev s7_42 : CC := (CC.block 5 s7_41)
noncomputable abbrev s7_43 : CC := (CC.region [(wB 55 (doMove (tm 13))), (wB 56 (bin2 fAdd (tm 55) (oN 1))), (wB 13 (doMove (tm 56)))])
noncomputable abbrev s7_44 : CC := (CC.seq s7_42 s7_43)
noncomputable abbrev l7_3 : CC := (CC.seq s7_25 s7_44)
noncomputable abbrev s7_45 : CC := (CC.loop l7_3)
noncomputable abbrev s7_46 : CC := (CC.block 4 s7_45)
noncomputable abbrev s7_47 : CC := (CC.seq (CC.region [(wB 13 (doMove (oN 0)))]) s7_46)
noncomputable abbrev s7_48 : CC := (CC.seq (CC.region [(wB 121 (doMove (tm 16))), (wB 122 (bin2 fEql (tm 121) (oN 0))), (wB 123 (doMove (tm 122))), (wG 123 true 124 (doMove (tm 15))), (wG 123 true 125 (doLen (tm 124))), (wG 123 true 126 (doMove (tm 11))), (wG 123 true 127 (bin2 fEql (tm 125) (tm 126))), (wB 128 (doPick (tm 123) (tm 127) (O.c (V.b Bool.false)))), (wB 129 (doMove (tm 128))), (wG 129 true 130 (doMove (tm 15))), (wG 129 true 131 (doMove (tm 2))), (wG 129 true 132 (doConv IntKind.i64 (tm 131))), (wG 129 true 133 (doCall 14 [(tm 130), (tm 132)])), (wG 129 true 134 (doLen (tm 133))), (wG 129 true 135 (doMove (tm 12))), (wG 129 true 136 (bin2 fEql (tm 134) (tm 135))), (wB 137 (doPick (tm 129) (tm 136) (O.c (V.b Bool.false)))), (wB 6 (doMove (tm 137)))]) CC.ret)
noncomputable abbrev s7_49 : CC := (CC.seq (CC.region [(wB 113 (doIndexAddrArr 2 1 (tm 10) (oN 0))), (wB 114 (doLoad (tm 113))), (wB 115 (doIndexAddrArr 2 1 (tm 10) (oN 1))), (wB 116 (doLoad (tm 115))), (wB 117 (doBuildSlice 23 2 [V.l0, V.l0] [(Pt.mk 0 1 (tm 114)), (Pt.mk 1 1 (tm 116))])), (wB 118 (doCall 11 [(tm 117)])), (wB 112 (doMove (tm 118))), (wB 119 (doExtract 0 (tm 112))), (wB 120 (doExtract 1 (tm 112))), (wB 15 (doMove (tm 119))), (wB 16 (doMove (tm 120)))]) s7_48)
noncomputable abbrev s7_50 : CC := (CC.seq s7_47 s7_49)
noncomputable abbrev s7_51 : CC := (CC.seq (CC.region [(wB 11 (doMove (oN 0))), (wB 12 (doMove (oN 0)))]) s7_50)
noncomputable abbrev s7_52 : CC := (CC.seq (CC.region [(wB 10 (doAlloc 51 [V.l0, V.l0]))]) s7_51)
noncomputable abbrev s7_53 : CC := (CC.seq s7_23 s7_52)
noncomputable abbrev s7_54 : CC := (CC.seq s7_14 s7_53)
noncomputable abbrev s7_55 : CC := (CC.seq (CC.region [(wB 7 (doAlloc 50 [(V.b Bool.false), (V.b Bool.false), (V.b Bool.false), (V.b Bool.false), (V.b Bool.false), (V.b Bool.false), (V.b Bool.false), (V.b Bool.false), (V.b Bool.false), (V.b Bool.false), (V.b Bool.false), (V.b Bool.false), (V.b Bool.false), (V.b Bool.false), (V.b Bool.false), (V.b Bool.false), (V.b Bool.false), (V.b Bool.false), (V.b Bool.false), (V.b Bool.false), (V.b Bool.false), (V.b Bool.false), (V.b Bool.false), (V.b Bool.false), (V.b Bool.false), (V.b Bool.false), (V.b Bool.false), (V.b Bool.false), (V.b Bool.false), (V.b Bool.false), (V.b Bool.false), (V.b Bool.false), (V.b Bool.false), (V.b Bool.false), (V.b Bool.false), (V.b Bool.false), (V.b Bool.false), (V.b Bool.false), (V.b Bool.false), (V.b Bool.false), (V.b Bool.false), (V.b Bool.false), (V.b Bool.false), (V.b Bool.false), (V.b Bool.false), (V.b Bool.false), (V.b Bool.false), (V.b Bool.false), (V.b Bool.false), (V.b Bool.false), (V.b Bool.false), (V.b Bool.false)]))]) s7_54)
noncomputable abbrev s7_56 : CC := (CC.seq s7_5 s7_55)
noncomputable abbrev s7_57 : CC := (CC.seq s7_2 s7_56)
noncomputable abbrev b7 : CC := (CC.seq (CC.region [(wB 6 (doMove (O.c (V.b Bool.false))))]) s7_57)
theorem c7 : compFn Try.prog 7 = ⟨138, b7, [(Rs.tmp (slOf 6))]⟩ := by kernel_rfl
end Go.Proofs.Ytnjgoggnhdpnoaa

set_option linter.all false
namespace Go.Proofs.Ytnjgoggnhdpnoaa
open Go Go.Ev
def hE (D : Nat → Bool) (i : Nat) : Ent := ⟨[107], (i : Int), D i, []⟩
def rowH (D w : Nat → Bool) : Nat → List Ent
  | 0 => []
  | k + 1 => if w (k + 1) = true then hE D (k + 1) :: rowH D w k else rowH D w k
section
variable {D w : Nat → Bool} {k : Nat}
theorem rowH_on (h : w (k + 1) = true) : rowH D w (k + 1) = hE D (k + 1) :: rowH D w k := if_pos h
theorem rowH_off (h : w (k + 1) = false) : rowH D w (k + 1) = rowH D w k := if_neg (by rw [h]; simp)
theorem rowH_mem {a : Ent} : ∀ {k : Nat}, a ∈ rowH D w k ↔ ∃ i, 1 ≤ i ∧ i ≤ k ∧ w i = true ∧ a = hE D i
  | 0 => by constructor
            · intro h; cases h
            · rintro ⟨i, h1, h2, _⟩; omega
  | k + 1 => by
    have ih := rowH_mem (a := a) (k := k)
    cases hw : w (k + 1) with
    | true =>
      rw [rowH_on hw, List.mem_cons, ih]
      constructor
      · rintro (h | ⟨i, h1, h2, h3⟩)
        · exact ⟨k + 1, by omega, by omega, hw, h⟩
        · exact ⟨i, h1, by omega, h3⟩
      · rintro ⟨i, h1, h2, h3, h4⟩
        by_cases e : i = k + 1
        · left; rw [h4, e]
        · exact .inr ⟨i, h1, by omega, h3, h4⟩
    | false =>
      rw [rowH_off hw, ih]
      constructor
      · rintro ⟨i, h1, h2, h3⟩; exact ⟨i, h1, by omega, h3⟩
      · rintro ⟨i, h1, h2, h3, h4⟩
        by_cases e : i = k + 1
        · rw [e, hw] at h3; cases h3
        · exact ⟨i, h1, by omega, h3, h4⟩
theorem rowH_pw : ∀ k, (rowH D w k).Pairwise fun a b => lessE a b = true
  | 0 => List.Pairwise.nil
  | k + 1 => by
    cases hw : w (k + 1) with
    | false => rw [rowH_off hw]; exact rowH_pw k
    | true =>
      rw [rowH_on hw, List.pairwise_cons]
      refine ⟨fun a ha => ?_, rowH_pw k⟩
      obtain ⟨i, h1, h2, _, rfl⟩ := rowH_mem.1 ha
      exact less_of rfl (by show (i : Int) < ((k + 1 : Nat) : Int); omega)
theorem rowH_sorted : sortedE (rowH D w k) = true := sorted_pw.2 (rowH_pw k)
theorem rowH_is (hk : k ≤ 1000000) : (rowH D w k).all isE = true := by
  rw [List.all_eq_true]
  intro a ha
  obtain ⟨i, h1, h2, _, rfl⟩ := rowH_mem.1 ha
  exact isE_iff.2 ⟨⟨by show (1 : Int) ≤ (i : Int); omega, by show (i : Int) ≤ 1000000; omega⟩, by show 1 ≤ 1; omega, by show 1 ≤ 13; omega, by show 0 ≤ 24; omega, fun _ => rfl⟩
theorem rowH_len : ∀ k, (rowH D w k).length ≤ k
  | 0 => Nat.le_refl _
  | k + 1 => by
    have := rowH_len k
    cases hw : w (k + 1) with
    | true => rw [rowH_on hw, List.length_cons]; omega
    | false => rw [rowH_off hw]; omega
theorem rowH_congr {w' : Nat → Bool} : ∀ {k : Nat}, (∀ i, 1 ≤ i → i ≤ k → w i = w' i) → rowH D w k = rowH D w' k
  | 0, _ => rfl
  | k + 1, h => by
    have ih := rowH_congr (w' := w') (k := k) fun i h1 h2 => h i h1 (by omega)
    have e := h (k + 1) (by omega) (by omega)
    cases hw : w' (k + 1) with
    | true => rw [rowH_on hw, rowH_on (e.trans hw), ih]
    | false => rw [rowH_off hw, rowH_off (e.trans hw), ih]
theorem rowH_filter {p : Ent → Bool} : ∀ {k : Nat}, (rowH D (fun _ => true) k).filter p = rowH D (fun i => p (hE D i)) k
  | 0 => rfl
  | k + 1 => by
    have ih := rowH_filter (p := p) (k := k)
    rw [rowH_on rfl, List.filter_cons, ih]
    cases hp : p (hE D (k + 1)) with
    | true => rw [if_pos rfl]; exact (rowH_on (w := fun i => p (hE D i)) hp).symm
    | false => rw [if_neg (by simp)]; exact (rowH_off (w := fun i => p (hE D i)) hp).symm
theorem rowH_down : ∀ k, rowH D (fun _ => true) k = (List.range k).map fun q => hE D (k - q)
  | 0 => rfl
  | k + 1 => by
    rw [rowH_on rfl, rowH_down k, List.range_succ_eq_map, List.map_cons, List.map_map]
    congr 1
    refine List.map_congr_left fun q _ => ?_
    show hE D (k - q) = hE D (k + 1 - (q + 1))
    rw [Nat.add_sub_add_right]
theorem newer_H {i : Nat} {n : Int} (h1 : 1 ≤ i) : newer (rowH D (fun _ => true) k) (hE D i) n = true ↔ i < k ∧ (i : Int) + 1 ≤ n := by
  rw [newer_iff]
  constructor
  · rintro ⟨a, ha, _, h2, h3⟩
    obtain ⟨j, j1, j2, _, rfl⟩ := rowH_mem.1 ha
    have h2 : (i : Int) < (j : Int) := h2
    have h3 : (j : Int) ≤ n := h3
    omega
  · rintro ⟨h2, h3⟩
    exact ⟨hE D (i + 1), rowH_mem.2 ⟨i + 1, by omega, by omega, rfl, rfl⟩, rfl, by show (i : Int) < ((i + 1 : Nat) : Int); omega, by show ((i + 1 : Nat) : Int) ≤ n; omega⟩
/-- which of them somebody sees -/
def wS (S : List Int) (k i j : Nat) : Bool := decide (j = k) || (S.take i).any fun n => decide (min (n % 25) (k : Int) = (j : Int))
theorem wS_succ {S : List Int} {i j : Nat} (hi : i < S.length) : wS S k (i + 1) j = (wS S k i j || decide (min (S.getD i 0 % 25) (k : Int) = (j : Int))) := by
  unfold wS
  have : S.take (i + 1) = S.take i ++ [S.getD i 0] := by rw [List.take_succ]; congr 1; simp [List.getD, hi]
  rw [this, List.any_append, List.any_cons, List.any_nil, Bool.or_false, Bool.or_assoc]
theorem want_H {S : List Int} {j : Nat} (h1 : 1 ≤ j) (h2 : j ≤ k) (hk : k ≤ 1000000) : wantP (rowH D (fun _ => true) k) (S.map (· % 25)) (hE D j) = wS S k S.length j := by
  refine Bool.eq_iff_iff.2 ?_
  rw [wantP_iff]
  unfold wS
  rw [List.take_length, Bool.or_eq_true, decide_eq_true_eq, List.any_eq_true]
  have nf : ∀ n : Int, newer (rowH D (fun _ => true) k) (hE D j) n = false ↔ ¬ (j < k ∧ (j : Int) + 1 ≤ n) := fun n => by rw [← newer_H h1, Bool.not_eq_true]
  constructor
  · rintro ⟨n, hn, h3, h4⟩
    have h3 : (j : Int) ≤ n := h3
    rw [nf] at h4
    rcases List.mem_cons.1 hn with rfl | hn
    · left; omega
    · obtain ⟨m, hm, rfl⟩ := List.mem_map.1 hn
      exact .inr ⟨m, hm, decide_eq_true (by omega)⟩
  · rintro (rfl | ⟨m, hm, h3⟩)
    · exact ⟨1000000, by simp, by show (j : Int) ≤ 1000000; omega, by rw [nf]; omega⟩
    · have h3 := of_decide_eq_true h3
      exact ⟨m % 25, List.mem_cons_of_mem _ (List.mem_map.2 ⟨m, hm, rfl⟩), by show (j : Int) ≤ m % 25; omega, by rw [nf]; omega⟩
/-- one of them up to i stays: it is kept and not deleted -/
def anyB (w D : Nat → Bool) : Nat → Bool
  | 0 => false
  | i + 1 => anyB w D i || (w (i + 1) && !D (i + 1))
theorem anyB_mono {i j : Nat} (h : anyB w D i = true) (hij : i ≤ j) : anyB w D j = true := by
  induction j with
  | zero => rwa [show i = 0 by omega] at h
  | succ j ih =>
    by_cases e : i = j + 1
    · rwa [e] at h
    · show (anyB w D j || _) = true
      rw [ih (by omega), Bool.true_or]
theorem bot_H : ∀ k, botE (rowH D w k) = rowH D (fun i => w i && anyB w D i) k ∧ (rowH D (fun i => w i && anyB w D i) k = [] ↔ anyB w D k = false)
  | 0 => ⟨rfl, by constructor <;> intro _ <;> rfl⟩
  | k + 1 => by
    obtain ⟨h1, h2⟩ := bot_H k
    have ea : anyB w D (k + 1) = (anyB w D k || (w (k + 1) && !D (k + 1))) := rfl
    cases hw : w (k + 1) with
    | false =>
      rw [rowH_off hw, rowH_off (w := fun i => w i && anyB w D i) (by show (w (k + 1) && _) = false; rw [hw]; rfl)]
      rw [ea, hw, Bool.false_and, Bool.or_false]
      exact ⟨h1, h2⟩
    | true =>
      rw [rowH_on hw]
      rw [hw, Bool.true_and] at ea
      cases hb : anyB w D k with
      | true =>
        rw [hb, Bool.true_or] at ea
        rw [rowH_on (w := fun i => w i && anyB w D i) (by show (w (k + 1) && anyB w D (k + 1)) = true; rw [hw, ea]; rfl)]
        have hne : botE (rowH D w k) ≠ [] := fun e => by rw [h1, h2, hb] at e; cases e
        refine ⟨?_, by rw [ea]; simp⟩
        rw [botE_same hne ?_, h1]
        obtain ⟨x, hx⟩ : ∃ x, x ∈ botE (rowH D w k) := List.exists_mem_of_ne_nil _ hne
        obtain ⟨q, hq, _⟩ := mem_getD hx
        have := (botE_sub _).subset (getD_memE (L := botE (rowH D w k)) (i := 0) (by omega))
        obtain ⟨i, _, _, _, e⟩ := rowH_mem.1 this
        rw [e]; rfl
      | false =>
        rw [hb, Bool.false_or] at ea
        have hnil : botE (rowH D w k) = [] := by rw [h1]; exact h2.2 hb
        cases hd : D (k + 1) with
        | true =>
          rw [hd] at ea
          rw [rowH_off (w := fun i => w i && anyB w D i) (by show (w (k + 1) && anyB w D (k + 1)) = false; rw [ea]; simp)]
          rw [botE_del (show (hE D (k + 1)).del = true from hd) (.inl hnil), h1]
          exact ⟨rfl, by rw [h2.2 hb, ea]; simp⟩
        | false =>
          rw [hd] at ea
          rw [rowH_on (w := fun i => w i && anyB w D i) (by show (w (k + 1) && anyB w D (k + 1)) = true; rw [hw, ea]; rfl)]
          rw [botE_put (show (hE D (k + 1)).del = false from hd), h1]
          exact ⟨rfl, by rw [ea]; simp⟩
/-- the array behind the third loop, stopped at i -/
def f4 (w : Nat → Bool) (i j : Nat) : Bool := decide (i ≤ j) && w j
theorem pack_H {S : List Int} {b : Bool} {i : Nat} (hk : k ≤ 1000000) (h1 : 1 ≤ i) (h0 : anyB (wS S k S.length) D (i - 1) = false) (hx : (b = false ∧ i = 1) ∨ (b = true ∧ i = k + 1) ∨ (b = true ∧ anyB (wS S k S.length) D i = true)) :
    packE (rowH D (fun _ => true) k) (S.map (· % 25)) b = rowH D (f4 (wS S k S.length) i) k := by
  rw [packE_ok (rowH_is hk) rowH_sorted, rowH_filter]
  have e := rowH_congr (D := D) (k := k) (w := fun j => wantP (rowH D (fun _ => true) k) (S.map (· % 25)) (hE D j)) (w' := wS S k S.length) fun j h1 h2 => want_H h1 h2 hk
  rw [e]
  generalize wS S k S.length = w at *
  have lo : ∀ j, j < i → anyB w D j = false := fun j hj => by
    cases h : anyB w D j with
    | false => rfl
    | true => rw [anyB_mono h (show j ≤ i - 1 by omega)] at h0; cases h0
  rcases hx with ⟨rfl, rfl⟩ | ⟨rfl, rfl⟩ | ⟨rfl, hx⟩
  · rw [if_neg (by simp)]
    refine rowH_congr fun j j1 _ => ?_
    unfold f4; rw [decide_eq_true j1, Bool.true_and]
  · rw [if_pos rfl, (bot_H k).1]
    refine rowH_congr fun j j1 j2 => ?_
    unfold f4; rw [lo j (by omega), decide_eq_false (by omega), Bool.and_false, Bool.false_and]
  · rw [if_pos rfl, (bot_H k).1]
    refine rowH_congr fun j j1 j2 => ?_
    unfold f4
    by_cases hj : i ≤ j
    · rw [anyB_mono hx hj, decide_eq_true hj, Bool.and_true, Bool.true_and]
    · rw [lo j (by omega), decide_eq_false hj, Bool.and_false, Bool.false_and]
end
/-- an array of bools by a function -/
def cB (n : Nat) (f : Nat → Bool) : List V := (List.range n).map fun j => .b (f j)
theorem cB_len (n : Nat) (f : Nat → Bool) : (cB n f).length = n := by simp [cB]
theorem cB_at {n q : Nat} {f : Nat → Bool} (hq : q < n) : (cB n f).getD q .u = .b (f q) := by simp [cB, List.getD, hq]
theorem cB_congr {n : Nat} {f g : Nat → Bool} (h : ∀ j, j < n → f j = g j) : cB n f = cB n g := List.map_congr_left fun j hj => by rw [h j (List.mem_range.1 hj)]
theorem cB_set {n q : Nat} {f : Nat → Bool} {b : Bool} : (cB n f).set q (.b b) = cB n fun j => if j = q then b else f j := by
  refine List.ext_getElem (by rw [List.length_set, cB_len, cB_len]) fun j h1 h2 => ?_
  rw [List.length_set, cB_len] at h1
  rw [List.getElem_set]
  have e : ∀ (f : Nat → Bool) (h : j < (cB n f).length), (cB n f)[j] = .b (f j) := fun f h => by simp [cB]
  rw [e, e]
  by_cases hj : q = j
  · rw [if_pos hj, if_pos hj.symm]
  · rw [if_neg hj, if_neg (fun e => hj e.symm)]
end Go.Proofs.Ytnjgoggnhdpnoaa
