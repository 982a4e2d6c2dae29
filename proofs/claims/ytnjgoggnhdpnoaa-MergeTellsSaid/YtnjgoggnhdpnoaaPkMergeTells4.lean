/- Texts of ours, without what this claim does not use: Wg EntM HpM MgM MgS JrMg JrEntR JrEnt Base NEnt1 NEntR NHp1 NMg1 NMg2 NMg3 MgJ Wy NMgA NMgB. No condition. -/
import Derived.Test.YtnjgoggnhdpnoaaPkMergeTells3
import Derived.Test.YtnjgoggnhdpnoaaProg
import Derived.KernelRfl
set_option linter.all false
namespace Go.Ev
open Go
section
variable {h : H}
/-- all cells of a block at once -/
theorem ST.ownAll {P : Program} {N : Nx} {id : B} {xs vs : List V} {x : V} {size fin : Nat} (o : Own h id xs) (hc : cells x = vs) (hs : vs.length = size) (h1 : allOne vs = true) (hj : vs.length ≤ fin) (hfit : vs.length < 2 ^ 37)
    (k : ∀ h', Own h' id vs → Stay (fun i => i = id) h h' → N.go P (.tu []) h') : ST P size (.p id 0 0 fin) x h N := by
  obtain ⟨blk, a1, a2, a3, a4, a5, a6, a7⟩ := o
  obtain ⟨next, floor, heap⟩ := h
  obtain ⟨cur, min, sz, cs, bel, fr⟩ := blk
  simp only at a2 a3 a4 a7
  subst a2; subst a3; subst a4
  obtain ⟨tr, t1, t2, t3⟩ := setList_fine vs 0 cs (by omega)
  obtain ⟨hp, s1, s2, s3⟩ := setK_ok id (⟨0, 0, sz, tr, bel, 0⟩ : Blk) heap
  have e1 : B.geB floor id = true := by cases floor <;> first | rfl | (show Nat.ble _ _ = true; rw [Nat.ble_eq]; exact a5)
  have e2 : Nat.ble (Nat.add 0 vs.length) fin = true := by rw [Nat.ble_eq]; show 0 + vs.length ≤ fin; omega
  have e4 : frOk 0 0 = true := rfl
  have e5 : Nat.beq 0 0 = true := rfl
  have e6 : Nat.ble 0 0 = true := rfl
  have e7 : Nat.beq vs.length size = true := by rw [hs]; simp
  have a1' : heap.get id = some ⟨0, 0, sz, cs, bel, 0⟩ := a1
  refine hm_of (v := .tu []) (h' := ⟨next, floor, hp⟩) (fun q => ?_) (k _ ⟨_, s2, rfl, rfl, rfl, a5, a6, fun i z hz => by have := t2 i z hz; rwa [Nat.zero_add] at this⟩ ⟨rfl, Nat.le_refl _, fun i _ hi => s3 i hi⟩)
  show ifK (Nat.beq (cells x).length size) (fun _ => store ⟨next, floor, heap⟩ id 0 0 fin (cells x) fun h => q (.tu []) h) = _
  rw [hc, e7, ifK_true]
  simp only [store, hK_mk, a1', optK_some, blkK_mk, e5, e6, e1, e2, h1, e4, ifK_true]
  rw [t1, s1]
end
theorem ST.all {P : Program} {h : H} {N : Nx} {id : B} {xs vs : List V} {size fin : Nat} (o : Own h id xs) (hs : vs.length = size) (h1 : allOne vs = true) (hj : vs.length ≤ fin) (hfit : vs.length < 2 ^ 37)
    (k : ∀ h', Own h' id vs → Stay (fun i => i = id) h h' → N.go P (.tu []) h') : ST P size (.p id 0 0 fin) (.a vs) h N := ST.ownAll o rfl hs h1 hj hfit k
/-- a row of structs of n cells each -/
def Ss {α : Type} (n : Nat) (c : α → List V) (h : H) (v : V) (L : List α) : Prop :=
  (v = .l0 ∧ L = []) ∨ ∃ id g off fin cap, v = .l id g off L.length fin cap ∧ off + L.length * n ≤ fin ∧ B.val id < B.val h.next ∧ Row h id g off (L.flatMap c)
section
variable {α : Type} [Inhabited α] {n : Nat} {c : α → List V}
theorem fm_len (hc : ∀ e, (c e).length = n) : ∀ (L : List α), (L.flatMap c).length = L.length * n
  | [] => by simp
  | a :: L => by rw [List.flatMap_cons, List.length_append, hc, fm_len hc L, List.length_cons, Nat.add_mul]; omega
theorem fm_at (hc : ∀ e, (c e).length = n) : ∀ {L : List α} {i : Nat}, i < L.length → ((L.flatMap c).drop (i * n)).take n = c (L.getD i default)
  | [], i, h => by simp at h
  | a :: L, 0, h => by
    rw [List.flatMap_cons, Nat.zero_mul, List.drop_zero, List.take_append_of_le_length (by rw [hc]; exact Nat.le_refl _), List.take_of_length_le (by rw [hc]; exact Nat.le_refl _)]; rfl
  | a :: L, i + 1, h => by
    have e : (i + 1) * n = (c a).length + i * n := by rw [hc, Nat.add_mul]; omega
    rw [List.flatMap_cons, e, ← List.drop_drop, List.drop_left, fm_at hc (by simpa using h)]
    simp [List.getD]
theorem fm_get (hc : ∀ e, (c e).length = n) {L : List α} {i d : Nat} (hi : i < L.length) (hd : d < n) : (L.flatMap c)[i * n + d]? = some ((c (L.getD i default)).getD d .u) := by
  have e : (((L.flatMap c).drop (i * n)).take n)[d]? = (c (L.getD i default))[d]? := by rw [fm_at hc hi]
  rw [List.getElem?_take, if_pos hd, List.getElem?_drop] at e
  rw [e]
  have : d < (c (L.getD i default)).length := by rw [hc]; exact hd
  have e3 : ∀ (x : List V), d < x.length → x[d]? = some (x.getD d .u) := fun x hx => by simp [List.getD, hx]
  exact e3 _ this
theorem fm_take (hc : ∀ e, (c e).length = n) : ∀ (L : List α) (k : Nat), (L.take k).flatMap c = (L.flatMap c).take (k * n)
  | [], k => by simp
  | a :: L, 0 => by simp
  | a :: L, k + 1 => by
    have e : (k + 1) * n = (c a).length + k * n := by rw [hc, Nat.add_mul]; omega
    have e2 : ((c a) ++ L.flatMap c).take ((c a).length + k * n) = c a ++ (L.flatMap c).take (k * n) := by
      rw [List.take_append, Nat.add_sub_cancel_left, List.take_of_length_le (Nat.le_add_right _ _)]
    rw [List.take_succ_cons, List.flatMap_cons, List.flatMap_cons, fm_take hc L k, e, e2]
theorem fm_drop (hc : ∀ e, (c e).length = n) : ∀ (L : List α) (k : Nat), (L.drop k).flatMap c = (L.flatMap c).drop (k * n)
  | [], k => by simp
  | a :: L, 0 => by simp
  | a :: L, k + 1 => by
    rw [List.drop_succ_cons, List.flatMap_cons, fm_drop hc L k, show (k + 1) * n = (c a).length + k * n by rw [hc, Nat.add_mul]; omega, ← List.drop_drop, List.drop_left]
variable {P : Program} {h h' g' : H} {N : Nx} {v : V} {L : List α} {i d : Nat}
theorem Ss.ln (a : Ss n c h v L) : H1 P gLen v g' N = N.go P (.i .i64 (L.length : Int)) g' := by
  rcases a with ⟨rfl, rfl⟩ | ⟨id, g, off, fin, cap, rfl, _⟩
  · exact gLen_l0
  · exact gLen_l
theorem Ss.ix (a : Ss n c h v L) (hi : i < L.length) : IX P n v i g' N = N.go P (.p (lid v) (lg v) (loff v + i * n) (lfin v)) g' := by
  rcases a with ⟨rfl, rfl⟩ | ⟨id, g, off, fin, cap, rfl, _⟩
  · simp at hi
  · exact ix_l hi
theorem Ss.ld (a : Ss n c h v L) (hc : ∀ e, (c e).length = n) (hi : i < L.length) (hd : d < n) : L1 P (lid v) (lg v) (loff v + i * n + d) (lfin v) h N = N.go P ((c (L.getD i default)).getD d .u) h := by
  rcases a with ⟨rfl, rfl⟩ | ⟨id, g, off, fin, cap, rfl, hf, hl, r⟩
  · simp at hi
  · refine hv_of fun k => ?_
    have := r.2 (i * n + d) _ (fm_get hc hi hd)
    rw [← Nat.add_assoc] at this
    have h1 : (i + 1) * n ≤ L.length * n := Nat.mul_le_mul_right n hi
    rw [Nat.add_mul] at h1
    exact load1_cell this (by show off + i * n + d < fin; omega) k
theorem Ss.ldA (a : Ss n c h v L) (hc : ∀ e, (c e).length = n) (hn : 1 ≤ n) (hi : i < L.length) : LN P (lid v) (lg v) (loff v + i * n) (lfin v) n h N = N.go P (.a (c (L.getD i default))) h := by
  rcases a with ⟨rfl, rfl⟩ | ⟨id, g, off, fin, cap, rfl, hf, hl, r⟩
  · simp at hi
  · refine hv_of fun k => ?_
    have h1 : (i + 1) * n ≤ L.length * n := Nat.mul_le_mul_right n hi
    rw [Nat.add_mul] at h1
    have hlen := hc (L.getD i default)
    refine loadN_row (vs := c (L.getD i default)) ⟨fun _ => r.1 ?_, fun j y hy => ?_⟩ hlen (by intro e; rw [e] at hlen; simp at hlen; omega) (by show off + i * n + n ≤ fin; omega) fun vs => k (.a vs)
    · intro e
      have h2 := fm_len hc L
      rw [e] at h2
      have h3 : L.length * n = 0 := h2.symm
      omega
    · have hj : j < n := by rw [← hlen]; exact (List.getElem?_eq_some_iff.1 hy).1
      have e := fm_get hc hi hj
      rw [List.getD, hy] at e
      have := r.2 (i * n + j) _ e
      rw [← Nat.add_assoc] at this
      exact this
theorem Ss.grow (a : Ss n c h v L) (s : Stay nowhere h h') : Ss n c h' v L := by
  rcases a with ⟨rfl, rfl⟩ | ⟨id, g, off, fin, cap, rfl, hf, hl, r⟩
  · exact .inl ⟨rfl, rfl⟩
  · exact .inr ⟨id, g, off, fin, cap, rfl, hf, Nat.lt_of_lt_of_le hl s.next, r.grow s hl⟩
theorem Ss.nil : Ss n c h .l0 ([] : List α) := .inl ⟨rfl, rfl⟩
/-- of a literal -/
theorem Ss.lit {id : B} {xs : List V} {cap : Option Nat} {len fin : Nat} (o : Own h id xs) (e : xs = L.flatMap c) (hc : ∀ e, (c e).length = n) (hl : len = L.length) (hf : L.length * n ≤ fin) : Ss n c h (.l id 0 0 len fin cap) L := by
  subst hl; subst e
  have r := o.row
  obtain ⟨blk, h1, h2, h3, h4, h5, h6, h7⟩ := o
  exact .inr ⟨id, 0, 0, fin, cap, rfl, by omega, h6, r⟩
/-- of a row that grew -/
theorem Ss.buf {el : Nat} {xs : List V} (b : Buf h el n v xs) (e : xs = L.flatMap c) (hc : ∀ e, (c e).length = n) (hn : 1 ≤ n) : Ss n c h v L := by
  subst e
  rcases b with ⟨rfl, he⟩ | ⟨id, g, m, blk, rfl, h1, h2, h3, h4, h5, h6, h7, h8, h9, h10⟩
  · refine .inl ⟨rfl, ?_⟩
    cases L with
    | nil => rfl
    | cons a L =>
      have := fm_len hc (a :: L)
      rw [he] at this
      have h3 : (L.length + 1) * n = 0 := this.symm
      rw [Nat.add_mul] at h3; omega
  · have hm : m = L.length := by
      rw [fm_len hc] at h2
      exact (Nat.eq_of_mul_eq_mul_right (by omega) h2).symm
    subst hm
    refine .inr ⟨id, g, 0, (L.flatMap c).length, none, rfl, by rw [fm_len hc]; omega, h4, fun _ => ⟨blk, h5, h6.1⟩, fun i y hy => ?_⟩
    unfold Ev.cell cellB
    rw [h5]
    show (if blk.min ≤ g then blk.cells.getN (0 + i) else none) = _
    rw [if_pos h6.1, Nat.zero_add]
    exact h10 i y hy
/-- a slice whose end is where it should be -/
def SwN (n : Nat) (v : V) : Prop := v = .l0 ∨ ∃ id g off m fin cap, v = .l id g off m fin cap ∧ match cap with
  | some c => m ≤ c ∧ (18446744073709551616 ≤ c → m = 0)
  | none => fin = off + m * n
theorem swn_capS {n off k L : Nat} : match capS k L with
  | some c => k ≤ c ∧ (18446744073709551616 ≤ c → k = 0)
  | none => off + k * n = off + k * n := by
  cases k with
  | zero => (cases L with | zero => exact rfl | succ L => exact ⟨Nat.zero_le _, fun _ => rfl⟩)
  | succ k => exact rfl
theorem row_hi {id : B} {g off k : Nat} (hc : ∀ e, (c e).length = n) (r : Row h id g off (L.flatMap c)) : Row h id g off ((L.take k).flatMap c) := by
  rw [fm_take hc]
  refine ⟨fun hne => r.1 fun e => hne (by rw [e]; simp), fun i y hy => r.2 i y ?_⟩
  rw [List.getElem?_take] at hy
  split at hy
  · exact hy
  · cases hy
theorem row_lo {id : B} {g off k : Nat} (hc : ∀ e, (c e).length = n) (r : Row h id g off (L.flatMap c)) : Row h id g (off + k * n) ((L.drop k).flatMap c) := by
  rw [fm_drop hc]
  refine ⟨fun hne => r.1 fun e => hne (by rw [e]; simp), fun i y hy => ?_⟩
  rw [List.getElem?_drop] at hy
  have := r.2 _ y hy
  rwa [← Nat.add_assoc] at this
theorem Ss.hi {kd : IntKind} {k : Nat} (a : Ss n c h v L) (hc : ∀ e, (c e).length = n) (w : SwN n v) (hk : k ≤ L.length) : ∃ u, Ss n c h u (L.take k) ∧ SwN n u ∧ ∀ (g : H) (N : Nx), H2 P (slHiV n) v (.i kd (k : Int)) g N = N.go P u g := by
  have e0 : Nat.ble 0 k = true := by rw [Nat.ble_eq]; omega
  have hkn : k * n ≤ L.length * n := Nat.mul_le_mul_right n hk
  have htk : (L.take k).length = k := by rw [List.length_take]; omega
  rcases a with ⟨rfl, rfl⟩ | ⟨id, g, off, fin, cap, rfl, h2, h3, r⟩
  · have : k = 0 := by simpa using hk
    subst this
    exact ⟨.l0, .inl ⟨rfl, by simp⟩, .inl rfl, fun g N => hv_of fun k => rfl⟩
  rcases w with e | ⟨id', g', off', n', fin', cap', e, hw⟩
  · cases e
  cases e
  cases cap with
  | none =>
    have hw : fin = off + L.length * n := hw
    refine ⟨.l id g off k (off + k * n) (capS k L.length), .inr ⟨id, g, off, off + k * n, capS k L.length, by rw [htk], by rw [htk]; exact Nat.le_refl _, h3, row_hi hc r⟩, .inr ⟨_, _, _, _, _, _, rfl, swn_capS⟩, fun g0 N => hv_of fun q => ?_⟩
    have e1 : Nat.ble k L.length = true := by rw [Nat.ble_eq]; exact hk
    have e2 : Nat.beq fin (Nat.add off (Nat.mul L.length n)) = true := by rw [hw]; exact Nat.beq_refl _
    unfold slHiV
    simp only [vL_l, vI_i, natK_cast, e0, ifK_true]
    show sliceN n id g off L.length fin 0 k q = _
    unfold sliceN
    rw [e1, ifK_true, e2, ifK_true, fN_eq, fN_eq, fN_eq]
    show q (.l id g (off + 0 * n) (k - 0) (off + k * n) (capS k L.length)) = _
    simp
  | some cc =>
    have hw2 : 18446744073709551616 ≤ cc → L.length = 0 := hw.2
    have hw : L.length ≤ cc := hw.1
    have e1 : Nat.ble k cc = true := by rw [Nat.ble_eq]; omega
    cases hfc : flagB cc with
    | true =>
      have hcc := flagB_t hfc
      have hx := hw2 hcc
      have hk0 : k = 0 := by omega
      subst hk0
      refine ⟨.l id g off 0 off (some cc), .inr ⟨id, g, off, off, some cc, by simp, by simp, h3, row_hi hc r⟩, .inr ⟨_, _, _, _, _, _, rfl, Nat.zero_le _, fun _ => rfl⟩, fun g0 N => hv_of fun q => ?_⟩
      unfold slHiV
      simp only [vL_l, vI_i, natK_cast, e0, ifK_true]
      show boolK (flagB cc) (fun _ => ifK (Nat.beq 0 0) fun _ => q (.l id g off 0 off (some cc))) _ = _
      rw [hfc]; rfl
    | false =>
    have hcM := flagB_f hfc
    cases cc with
    | zero =>
      have hx : L.length = 0 := by omega
      have hk0 : k = 0 := by omega
      subst hk0
      refine ⟨.l id g off 0 fin (some 0), .inr ⟨id, g, off, fin, some 0, by simp, by simp; omega, h3, row_hi hc r⟩, .inr ⟨_, _, _, _, _, _, rfl, Nat.le_refl _, fun _ => rfl⟩, fun g0 N => hv_of fun q => ?_⟩
      unfold slHiV
      simp only [vL_l, vI_i, natK_cast, e0, ifK_true]
      rfl
    | succ cc =>
      refine ⟨.l id g off k fin (some (cc + 1)), .inr ⟨id, g, off, fin, some (cc + 1), by rw [htk], by rw [htk]; omega, h3, row_hi hc r⟩, .inr ⟨_, _, _, _, _, _, rfl, by show k ≤ cc + 1; omega, fun h => absurd hcM (Nat.not_lt.2 h)⟩, fun g0 N => hv_of fun q => ?_⟩
      unfold slHiV
      simp only [vL_l, vI_i, natK_cast, e0, ifK_true]
      show boolK (flagB (cc + 1)) _ (fun _ => sliceC n id g off L.length fin (cc + 1) 0 k fun v => q v) = _
      rw [hfc, boolK_false, sliceC_mid hcM (by omega) (by omega)]
      simp
theorem Ss.mid {kd kd' : IntKind} {j k : Nat} (a : Ss n c h v L) (hc : ∀ e, (c e).length = n) (w : SwN n v) (hj : j ≤ k) (hk : k ≤ L.length) : ∃ u, Ss n c h u ((L.take k).drop j) ∧ SwN n u ∧ ∀ (g : H) (N : Nx), H3 P (slBoV n) v (.i kd (j : Int)) (.i kd' (k : Int)) g N = N.go P u g := by
  have e0 : Nat.ble j k = true := by rw [Nat.ble_eq]; omega
  have hkn : k * n ≤ L.length * n := Nat.mul_le_mul_right n hk
  have hjn : j * n + (k - j) * n = k * n := by rw [← Nat.add_mul]; congr 1; omega
  have htk : ((L.take k).drop j).length = k - j := by rw [List.length_drop, List.length_take]; omega
  rcases a with ⟨rfl, rfl⟩ | ⟨id, g, off, fin, cap, rfl, h2, h3, r⟩
  · obtain rfl : k = 0 := by simpa using hk
    obtain rfl : j = 0 := by omega
    exact ⟨.l0, .inl ⟨rfl, by simp⟩, .inl rfl, fun g N => hv_of fun k => rfl⟩
  rcases w with e | ⟨id', g', off', n', fin', cap', e, hw⟩
  · cases e
  cases e
  have hr := row_lo hc (row_hi (k := k) hc r) (k := j)
  cases cap with
  | none =>
    have hw : fin = off + L.length * n := hw
    refine ⟨.l id g (off + j * n) (k - j) (off + k * n) (capS k L.length), .inr ⟨id, g, off + j * n, off + k * n, capS k L.length, by rw [htk], by rw [htk]; omega, h3, hr⟩, .inr ⟨_, _, _, _, _, _, rfl, ?_⟩, fun g0 N => hv_of fun q => ?_⟩
    · cases hk0 : k with
      | zero => (cases L.length with | zero => (show _ = _; rw [hk0] at hjn; omega) | succ l => exact ⟨by omega, fun _ => by omega⟩)
      | succ m => (show _ = _; rw [← hk0]; omega)
    have e1 : Nat.ble k L.length = true := by rw [Nat.ble_eq]; exact hk
    have e2 : Nat.beq fin (Nat.add off (Nat.mul L.length n)) = true := by rw [hw]; exact Nat.beq_refl _
    unfold slBoV
    simp only [vL_l, vI_i, natK_cast, e0, ifK_true]
    show sliceN n id g off L.length fin j k q = _
    unfold sliceN
    rw [e1, ifK_true, e2, ifK_true, fN_eq, fN_eq, fN_eq]
    rfl
  | some cc =>
    have hw2 : 18446744073709551616 ≤ cc → L.length = 0 := hw.2
    have hw : L.length ≤ cc := hw.1
    cases hfc : flagB cc with
    | true =>
      have hcc := flagB_t hfc
      have hx := hw2 hcc
      obtain rfl : k = 0 := by omega
      obtain rfl : j = 0 := by omega
      refine ⟨.l id g off 0 off (some cc), .inr ⟨id, g, off, off, some cc, by simp, by simp, h3, ?_⟩, .inr ⟨_, _, _, _, _, _, rfl, Nat.zero_le _, fun _ => rfl⟩, fun g0 N => hv_of fun q => ?_⟩
      · simpa using hr
      unfold slBoV
      simp only [vL_l, vI_i, natK_cast, e0, ifK_true]
      show boolK (flagB cc) (fun _ => ifK (Nat.beq 0 0) fun _ => q (.l id g off 0 off (some cc))) _ = _
      rw [hfc]; rfl
    | false =>
    have hcM := flagB_f hfc
    by_cases hjc : j = cc
    · have hx : k = j := by omega
      refine ⟨.l id g off 0 fin (some 0), .inr ⟨id, g, off, fin, some 0, by rw [htk, hx]; simp, by rw [htk, hx]; simp; omega, h3, ?_⟩, .inr ⟨_, _, _, _, _, _, rfl, Nat.le_refl _, fun _ => rfl⟩, fun g0 N => hv_of fun q => ?_⟩
      · rw [List.drop_eq_nil_of_le (by rw [List.length_take]; omega)]
        exact ⟨fun hne => absurd rfl hne, fun i v hv => by simp at hv⟩
      · unfold slBoV
        simp only [vL_l, vI_i, natK_cast, e0, ifK_true]
        show boolK (flagB cc) _ (fun _ => sliceC n id g off L.length fin cc j k fun v => q v) = _
        rw [hfc, boolK_false]
        have eM : Nat.ble (Nat.succ cc) 18446744073709551616 = true := by rw [Nat.ble_eq]; exact hcM
        have e1 : Nat.ble k cc = true := by rw [Nat.ble_eq]; omega
        unfold sliceC
        rw [eM, ifK_true]
        have e2 : Nat.beq j cc = true := by rw [hjc]; exact Nat.beq_refl _
        rw [e1, ifK_true, e2]; rfl
    · refine ⟨.l id g (off + j * n) (k - j) fin (some (cc - j)), .inr ⟨id, g, off + j * n, fin, some (cc - j), by rw [htk], by rw [htk]; omega, h3, hr⟩, .inr ⟨_, _, _, _, _, _, rfl, by show k - j ≤ cc - j; omega, fun h => absurd hcM (by omega)⟩, fun g0 N => hv_of fun q => ?_⟩
      unfold slBoV
      simp only [vL_l, vI_i, natK_cast, e0, ifK_true]
      show boolK (flagB cc) _ (fun _ => sliceC n id g off L.length fin cc j k fun v => q v) = _
      rw [hfc, boolK_false, sliceC_mid hcM (by omega) (by omega)]
theorem Ss.lo {kd : IntKind} {k : Nat} (a : Ss n c h v L) (hc : ∀ e, (c e).length = n) (w : SwN n v) (hk : k ≤ L.length) : ∃ u, Ss n c h u (L.drop k) ∧ SwN n u ∧ ∀ (g : H) (N : Nx), H2 P (slLoV n) v (.i kd (k : Int)) g N = N.go P u g := by
  have e0 : Nat.ble k L.length = true := by rw [Nat.ble_eq]; omega
  have hkn : k * n + (L.length - k) * n = L.length * n := by rw [← Nat.add_mul]; congr 1; omega
  have htk : (L.drop k).length = L.length - k := List.length_drop
  rcases a with ⟨rfl, rfl⟩ | ⟨id, g, off, fin, cap, rfl, h2, h3, r⟩
  · have : k = 0 := by simpa using hk
    subst this
    exact ⟨.l0, .inl ⟨rfl, by simp⟩, .inl rfl, fun g N => hv_of fun k => rfl⟩
  rcases w with e | ⟨id', g', off', n', fin', cap', e, hw⟩
  · cases e
  cases e
  cases cap with
  | none =>
    have hw : fin = off + L.length * n := hw
    refine ⟨.l id g (off + k * n) (L.length - k) (off + L.length * n) none, .inr ⟨id, g, off + k * n, off + L.length * n, none, by rw [htk], by rw [htk]; omega, h3, row_lo hc r⟩, .inr ⟨_, _, _, _, _, _, rfl, by show off + L.length * n = off + k * n + (L.length - k) * n; omega⟩, fun g0 N => hv_of fun q => ?_⟩
    have e1 : Nat.ble L.length L.length = true := by rw [Nat.ble_eq]; exact Nat.le_refl _
    have e2 : Nat.beq fin (Nat.add off (Nat.mul L.length n)) = true := by rw [hw]; exact Nat.beq_refl _
    unfold slLoV
    simp only [vL_l, vI_i, natK_cast, e0, ifK_true]
    show sliceN n id g off L.length fin k L.length q = _
    unfold sliceN
    rw [e1, ifK_true, e2, ifK_true, fN_eq, fN_eq, fN_eq, capS_self]
    rfl
  | some cc =>
    have hw2 : 18446744073709551616 ≤ cc → L.length = 0 := hw.2
    have hw : L.length ≤ cc := hw.1
    have e1 : Nat.ble L.length cc = true := by rw [Nat.ble_eq]; omega
    cases hfc : flagB cc with
    | true =>
      have hcc := flagB_t hfc
      have hx := hw2 hcc
      have hk0 : k = 0 := by omega
      subst hk0
      refine ⟨.l id g off 0 off (some cc), .inr ⟨id, g, off, off, some cc, by rw [htk, hx], by rw [htk, hx]; simp, h3, ?_⟩, .inr ⟨_, _, _, _, _, _, rfl, Nat.zero_le _, fun _ => rfl⟩, fun g0 N => hv_of fun q => ?_⟩
      · rw [List.drop_eq_nil_of_le (by omega)]
        exact ⟨fun hne => absurd rfl hne, fun i v hv => by simp at hv⟩
      · unfold slLoV
        simp only [vL_l, vI_i, natK_cast, e0, ifK_true]
        show boolK (flagB cc) (fun _ => ifK (Nat.beq L.length 0) fun _ => q (.l id g off 0 off (some cc))) _ = _
        rw [hfc, hx]; rfl
    | false =>
    have hcM := flagB_f hfc
    have eM : Nat.ble (Nat.succ cc) 18446744073709551616 = true := by rw [Nat.ble_eq]; exact hcM
    by_cases hkc : k = cc
    · have hx : L.length = k := by omega
      refine ⟨.l id g off 0 fin (some 0), .inr ⟨id, g, off, fin, some 0, by rw [htk, hx]; simp, by rw [htk, hx]; simp; omega, h3, ?_⟩, .inr ⟨_, _, _, _, _, _, rfl, Nat.le_refl _, fun _ => rfl⟩, fun g0 N => hv_of fun q => ?_⟩
      · rw [List.drop_eq_nil_of_le (by omega)]
        exact ⟨fun hne => absurd rfl hne, fun i v hv => by simp at hv⟩
      · unfold slLoV
        simp only [vL_l, vI_i, natK_cast, e0, ifK_true]
        show boolK (flagB cc) _ (fun _ => sliceC n id g off L.length fin cc k L.length fun v => q v) = _
        rw [hfc, boolK_false]
        unfold sliceC
        rw [eM, ifK_true]
        have e2 : Nat.beq k cc = true := by rw [hkc]; exact Nat.beq_refl _
        rw [e1, ifK_true, e2]; rfl
    · refine ⟨.l id g (off + k * n) (L.length - k) fin (some (cc - k)), .inr ⟨id, g, off + k * n, fin, some (cc - k), by rw [htk], by rw [htk]; omega, h3, row_lo hc r⟩, .inr ⟨_, _, _, _, _, _, rfl, by show L.length - k ≤ cc - k; omega, fun h => absurd hcM (by omega)⟩, fun g0 N => hv_of fun q => ?_⟩
      unfold slLoV
      simp only [vL_l, vI_i, natK_cast, e0, ifK_true]
      show boolK (flagB cc) _ (fun _ => sliceC n id g off L.length fin cc k L.length fun v => q v) = _
      rw [hfc, boolK_false, sliceC_mid hcM (by omega) (by omega)]
/-- the cells that are appended -/
theorem new_ss (a : Ss n c h v L) (hc : ∀ e, (c e).length = n) (hn : 1 ≤ n) (k : Nat → List V → Bool) : newCells n v h k = k L.length (L.flatMap c) := by
  rcases a with ⟨rfl, rfl⟩ | ⟨id, g, off, fin, cap, rfl, hf, hl, r⟩
  · rfl
  · have hlen := fm_len hc L
    cases hm : L.length with
    | zero =>
      have : L = [] := List.eq_nil_of_length_eq_zero hm
      subst this; rfl
    | succ m =>
      rw [hm] at hlen hf
      show loadN h id g off fin (Nat.mul (m + 1) n) (fun vs => k (m + 1) vs) = _
      have hne : L.flatMap c ≠ [] := by
        intro e; rw [e] at hlen
        have h3 : (m + 1) * n = 0 := hlen.symm
        rw [Nat.add_mul] at h3; omega
      rw [show Nat.mul (m + 1) n = (L.flatMap c).length by rw [hlen]; rfl, loadN_row r rfl hne (by rw [hlen]; omega)]
end
end Go.Ev

set_option linter.all false
namespace Go.Ev
open Go
structure Ent where
  key : List UInt8
  seq : Int
  del : Bool
  val : List UInt8
deriving DecidableEq
def entZ : Ent := ⟨[], 0, false, []⟩
instance : Inhabited Ent := ⟨entZ⟩
def entC (e : Ent) : List V := [sv e.key, .i .i64 e.seq, .b e.del, sv e.val]
theorem entC_len (e : Ent) : (entC e).length = 4 := rfl
def Es (h : H) (v : V) (L : List Ent) : Prop := Ss 4 entC h v L
section
variable {P : Program} {h h' g' : H} {N : Nx} {v : V} {L : List Ent} {i d : Nat}
theorem Es.ln (a : Es h v L) : H1 P gLen v g' N = N.go P (.i .i64 (L.length : Int)) g' := Ss.ln a
theorem Es.ix (a : Es h v L) (hi : i < L.length) : IX P 4 v i g' N = N.go P (.p (lid v) (lg v) (loff v + i * 4) (lfin v)) g' := Ss.ix a hi
theorem Es.l0 (a : Es h v L) (hi : i < L.length) : L1 P (lid v) (lg v) (loff v + i * 4) (lfin v) h N = N.go P (sv (L.getD i default).key) h := Ss.ld (d := 0) a entC_len hi (by omega)
theorem Es.l1 (a : Es h v L) (hi : i < L.length) : L1 P (lid v) (lg v) (loff v + i * 4 + 1) (lfin v) h N = N.go P (.i .i64 (L.getD i default).seq) h := Ss.ld (d := 1) a entC_len hi (by omega)
theorem Es.l2 (a : Es h v L) (hi : i < L.length) : L1 P (lid v) (lg v) (loff v + i * 4 + 2) (lfin v) h N = N.go P (.b (L.getD i default).del) h := Ss.ld (d := 2) a entC_len hi (by omega)
theorem Es.l3 (a : Es h v L) (hi : i < L.length) : L1 P (lid v) (lg v) (loff v + i * 4 + 3) (lfin v) h N = N.go P (sv (L.getD i default).val) h := Ss.ld (d := 3) a entC_len hi (by omega)
theorem Es.la (a : Es h v L) (hi : i < L.length) : LN P (lid v) (lg v) (loff v + i * 4) (lfin v) 4 h N = N.go P (.a [sv (L.getD i default).key, .i .i64 (L.getD i default).seq, .b (L.getD i default).del, sv (L.getD i default).val]) h := Ss.ldA a entC_len (by omega) hi
theorem Es.grow (a : Es h v L) (s : Stay nowhere h h') : Es h' v L := Ss.grow a s
end
/-- of a write -/
def isW (key : List UInt8) (del : Bool) (val : List UInt8) : Bool := decide (1 ≤ key.length ∧ key.length ≤ 13 ∧ val.length ≤ 24 ∧ (del = true → val = []))
def isE (e : Ent) : Bool := decide (1 ≤ e.seq ∧ e.seq ≤ 1000000) && isW e.key e.del e.val
theorem isE_iff {e : Ent} : isE e = true ↔ (1 ≤ e.seq ∧ e.seq ≤ 1000000) ∧ 1 ≤ e.key.length ∧ e.key.length ≤ 13 ∧ e.val.length ≤ 24 ∧ (e.del = true → e.val = []) := by
  unfold isE isW; rw [Bool.and_eq_true, decide_eq_true_eq, decide_eq_true_eq]
theorem isE_in {e : Ent} (h1 : 1 ≤ e.seq) (h2 : e.seq ≤ 1000000) : isE e = isW e.key e.del e.val := by unfold isE; rw [decide_eq_true ⟨h1, h2⟩, Bool.true_and]
theorem isE_lo {e : Ent} (h1 : e.seq < 1) : isE e = false := by unfold isE; rw [decide_eq_false (by omega), Bool.false_and]
theorem isE_hi {e : Ent} (h1 : 1000000 < e.seq) : isE e = false := by unfold isE; rw [decide_eq_false (by omega), Bool.false_and]
section
variable {k v : List UInt8} {d : Bool}
theorem isW_lo (h : (k.length : Int) < 1) : isW k d v = false := by unfold isW; rw [decide_eq_false_iff_not]; rintro ⟨a, _⟩; omega
theorem isW_hi (h : 13 < (k.length : Int)) : isW k d v = false := by unfold isW; rw [decide_eq_false_iff_not]; rintro ⟨_, a, _⟩; omega
theorem isW_big (h : 24 < (v.length : Int)) : isW k d v = false := by unfold isW; rw [decide_eq_false_iff_not]; rintro ⟨_, _, a, _⟩; omega
theorem isW_t (h1 : 1 ≤ (k.length : Int)) (h2 : (k.length : Int) ≤ 13) (hd : d = true) : isW k d v = decide (v = []) := by
  subst hd; unfold isW; congr 1
  refine propext ⟨fun h => h.2.2.2 rfl, fun e => ?_⟩
  subst e; exact ⟨by omega, by omega, by simp, fun _ => rfl⟩
theorem isW_f (h1 : 1 ≤ (k.length : Int)) (h2 : (k.length : Int) ≤ 13) (hd : d = false) : isW k d v = decide ((v.length : Int) ≤ 24) := by
  subst hd; unfold isW; congr 1
  exact propext ⟨fun h => by omega, fun e => ⟨by omega, by omega, by omega, fun h => by cases h⟩⟩
end
def lessE (a b : Ent) : Bool := if a.key = b.key then decide (b.seq < a.seq) else Op.bytesLess a.key b.key
/-- the first k places are in order -/
def srtU (L : List Ent) (k : Nat) : Bool := (List.range k).all fun j => lessE (L.getD j default) (L.getD (j + 1) default)
def sortedE (L : List Ent) : Bool := srtU L (L.length - 1)
theorem srtU_succ (L : List Ent) (k : Nat) : srtU L (k + 1) = (srtU L k && lessE (L.getD k default) (L.getD (k + 1) default)) := by
  unfold srtU; rw [List.range_succ, List.all_append]; simp
theorem srtU_at {L : List Ent} {j k : Nat} (h : srtU L k = true) (hj : j < k) : lessE (L.getD j default) (L.getD (j + 1) default) = true := by
  unfold srtU at h
  rw [List.all_eq_true] at h
  exact h j (by rw [List.mem_range]; exact hj)
theorem sorted_no {L : List Ent} {j : Nat} (hj : j + 1 < L.length) (h : lessE (L.getD j default) (L.getD (j + 1) default) = false) : sortedE L = false := by
  cases hs : sortedE L with
  | false => rfl
  | true => have := srtU_at (j := j) hs (by omega); rw [h] at this; cases this
theorem bl_cons {x y : UInt8} {a b : List UInt8} : Op.bytesLess (x :: a) (y :: b) = true ↔ x.toNat < y.toNat ∨ (x = y ∧ Op.bytesLess a b = true) := by
  simp only [Op.bytesLess, Bool.or_eq_true, Bool.and_eq_true, decide_eq_true_eq, beq_iff_eq, UInt8.lt_iff_toNat_lt]
theorem bl_irr : ∀ l : List UInt8, Op.bytesLess l l = false
  | [] => rfl
  | c :: l => by
    cases h : Op.bytesLess (c :: l) (c :: l) with
    | false => rfl
    | true =>
      rcases bl_cons.1 h with h | ⟨_, h⟩
      · omega
      · rw [bl_irr l] at h; cases h
theorem bl_trans : ∀ {a b c : List UInt8}, Op.bytesLess a b = true → Op.bytesLess b c = true → Op.bytesLess a c = true
  | a, [], c, h, _ => by cases a <;> cases h
  | _, _ :: _, [], _, h => by cases h
  | [], _ :: _, _ :: _, _, _ => rfl
  | x :: a, y :: b, z :: c, h, g => by
    rcases bl_cons.1 h with h1 | ⟨h1, h2⟩ <;> rcases bl_cons.1 g with g1 | ⟨g1, g2⟩
    · exact bl_cons.2 (.inl (by omega))
    · exact bl_cons.2 (.inl (by rw [← g1]; exact h1))
    · exact bl_cons.2 (.inl (by rw [h1]; exact g1))
    · exact bl_cons.2 (.inr ⟨h1.trans g1, bl_trans h2 g2⟩)
theorem bl_total : ∀ {a b : List UInt8}, a ≠ b → Op.bytesLess a b = true ∨ Op.bytesLess b a = true
  | [], [], h => absurd rfl h
  | [], _ :: _, _ => .inl rfl
  | _ :: _, [], _ => .inr rfl
  | x :: a, y :: b, h => by
    by_cases e : x = y
    · subst e
      rcases bl_total (a := a) (b := b) (fun e => h (by rw [e])) with g | g
      · exact .inl (bl_cons.2 (.inr ⟨rfl, g⟩))
      · exact .inr (bl_cons.2 (.inr ⟨rfl, g⟩))
    · have : x.toNat ≠ y.toNat := fun g => e (UInt8.toNat_inj.1 g)
      rcases Nat.lt_or_ge x.toNat y.toNat with g | g
      · exact .inl (bl_cons.2 (.inl g))
      · exact .inr (bl_cons.2 (.inl (by omega)))
theorem lessE_ne {a b : Ent} (h : ¬ a.key = b.key) : lessE a b = Op.bytesLess a.key b.key := if_neg h
theorem lessE_eq {a b : Ent} (h : a.key = b.key) : lessE a b = decide (b.seq < a.seq) := if_pos h
theorem lessE_lt {a b : Ent} (h : Op.bytesLess a.key b.key = true) : lessE a b = true := by
  rw [lessE_ne]
  · exact h
  · intro e; rw [e, bl_irr] at h; cases h
theorem lessE_irr (a : Ent) : lessE a a = false := by unfold lessE; simp
theorem lessE_trans {a b c : Ent} (h : lessE a b = true) (g : lessE b c = true) : lessE a c = true := by
  unfold lessE at *
  by_cases e1 : a.key = b.key <;> by_cases e2 : b.key = c.key
  · rw [if_pos e1] at h; rw [if_pos e2] at g; rw [if_pos (e1.trans e2)]
    simp at h g ⊢; omega
  · rw [if_neg e2] at g; rw [e1, if_neg e2]; exact g
  · rw [if_neg e1] at h; rw [← e2, if_neg e1]; exact h
  · rw [if_neg e1] at h; rw [if_neg e2] at g
    have := bl_trans h g
    rw [if_neg]
    · exact this
    · intro e; rw [e, bl_irr] at this; cases this
theorem lessE_asym {a b : Ent} (h : lessE a b = true) : lessE b a = false := by
  cases g : lessE b a with
  | false => rfl
  | true => have := lessE_trans h g; rw [lessE_irr] at this; cases this
section
variable {s k v : List UInt8} {n m j : Nat} {q e : Int}
end
theorem sorted_lt {L : List Ent} (hs : sortedE L = true) : ∀ {i j : Nat}, i < j → j < L.length → lessE (L.getD i default) (L.getD j default) = true := by
  intro i j hij
  induction j with
  | zero => omega
  | succ j ih =>
    intro hj
    have h1 : lessE (L.getD j default) (L.getD (j + 1) default) = true := srtU_at (k := L.length - 1) hs (by omega)
    by_cases e : i = j
    · subst e; exact h1
    · exact lessE_trans (ih (by omega) (by omega)) h1
theorem sorted_of {L : List Ent} (h : ∀ j, j + 1 < L.length → lessE (L.getD j default) (L.getD (j + 1) default) = true) : sortedE L = true := by
  unfold sortedE srtU
  rw [List.all_eq_true]
  intro j hj
  rw [List.mem_range] at hj
  exact h j (by omega)
theorem sorted_drop {L : List Ent} (hs : sortedE L = true) (k : Nat) : sortedE (L.drop k) = true := by
  refine sorted_of fun j hj => ?_
  rw [List.length_drop] at hj
  have e : ∀ i, (L.drop k).getD i default = L.getD (k + i) default := fun i => by simp [List.getD]
  rw [e j, e (j + 1)]
  exact sorted_lt hs (by omega) (by omega)
def okE (e : Ent) : Bool := decide (e.key.length ≤ 20) && decide (e.val.length ≤ 40)
def fewE (L : List Ent) : Bool := L.all okE && decide (L.length ≤ 60)
theorem all_at {p : Ent → Bool} {L : List Ent} {i : Nat} (hi : i < L.length) (h : p (L.getD i default) = false) : L.all p = false := by
  rw [List.all_eq_false]
  refine ⟨L[i], by simp, ?_⟩
  rw [show L.getD i default = L[i] by simp [List.getD, hi]] at h
  rw [h]; decide
theorem all_ok {p : Ent → Bool} {L : List Ent} (h : ∀ j, j < L.length → p (L.getD j default) = true) : L.all p = true := by
  rw [List.all_eq_true]
  intro y hy
  obtain ⟨j, hj, rfl⟩ := List.getElem_of_mem hy
  have := h j hj
  rwa [show L.getD j default = L[j] by simp [List.getD, hj]] at this
end Go.Ev

set_option linter.all false
namespace Go.Proofs.Ytnjgoggnhdpnoaa
open Go Go.Ev
/-- is one of that key and number there -/
def hasE (L : List Ent) (x : Ent) : Bool := L.any fun a => decide (a.key = x.key ∧ a.seq = x.seq)
def insE (x : Ent) : List Ent → List Ent
  | [] => [x]
  | a :: L => if lessE x a then x :: a :: L else a :: insE x L
/-- .. unless it is there -/
def addE (L : List Ent) (x : Ent) : List Ent := if hasE L x then L else insE x L
theorem addE_has {L : List Ent} {x : Ent} (h : hasE L x = true) : addE L x = L := by unfold addE; rw [h]; rfl
theorem addE_new {L : List Ent} {x : Ent} (h : hasE L x = false) : addE L x = insE x L := by unfold addE; rw [h]; rfl
theorem hasE_at {L : List Ent} {x : Ent} {i : Nat} (hi : i < L.length) (h : (L.getD i default).key = x.key ∧ (L.getD i default).seq = x.seq) : hasE L x = true := by
  unfold hasE
  rw [List.any_eq_true]
  refine ⟨L.getD i default, ?_, decide_eq_true h⟩
  rw [List.getD_eq_getElem?_getD, List.getElem?_eq_getElem hi]; simp
theorem hasE_no {L : List Ent} {x : Ent} (h : ∀ i, i < L.length → ¬ ((L.getD i default).key = x.key ∧ (L.getD i default).seq = x.seq)) : hasE L x = false := by
  unfold hasE
  rw [List.any_eq_false]
  intro a ha
  obtain ⟨i, hi, rfl⟩ := List.getElem_of_mem ha
  have := h i hi
  rw [List.getD_eq_getElem?_getD, List.getElem?_eq_getElem hi] at this
  simpa using this
theorem hasE_mem {L : List Ent} {x : Ent} : hasE L x = true ↔ ∃ a ∈ L, a.key = x.key ∧ a.seq = x.seq := by
  unfold hasE; rw [List.any_eq_true]
  exact ⟨fun ⟨a, h1, h2⟩ => ⟨a, h1, of_decide_eq_true h2⟩, fun ⟨a, h1, h2⟩ => ⟨a, h1, decide_eq_true h2⟩⟩
theorem insE_len (x : Ent) : ∀ L : List Ent, (insE x L).length = L.length + 1
  | [] => rfl
  | a :: L => by unfold insE; split <;> simp [insE_len x L]
theorem insE_mem {x a : Ent} : ∀ {L : List Ent}, a ∈ insE x L ↔ a = x ∨ a ∈ L
  | [] => by simp [insE]
  | b :: L => by
    unfold insE
    split
    · simp
    · rw [List.mem_cons, insE_mem (L := L), List.mem_cons]
      constructor
      · rintro (h | h | h)
        · exact .inr (.inl h)
        · exact .inl h
        · exact .inr (.inr h)
      · rintro (h | h | h)
        · exact .inr (.inl h)
        · exact .inl h
        · exact .inr (.inr h)
theorem insE_none {x : Ent} : ∀ {A : List Ent}, (∀ a ∈ A, lessE x a = false) → ∀ C, insE x (A ++ C) = A ++ insE x C
  | [], _, C => rfl
  | a :: A, h, C => by
    have h1 := h a (by simp)
    show (if lessE x a then _ else a :: insE x (A ++ C)) = _
    rw [h1, insE_none (fun b hb => h b (List.mem_cons_of_mem _ hb)) C]; rfl
theorem insE_some {x : Ent} : ∀ {A : List Ent}, (∃ a ∈ A, lessE x a = true) → ∀ C, insE x (A ++ C) = insE x A ++ C
  | [], h, _ => by obtain ⟨a, ha, _⟩ := h; cases ha
  | a :: A, h, C => by
    show (if lessE x a then x :: a :: (A ++ C) else a :: insE x (A ++ C)) = (if lessE x a then x :: a :: A else a :: insE x A) ++ C
    cases ha : lessE x a with
    | true => rfl
    | false =>
      have : ∃ b ∈ A, lessE x b = true := by
        obtain ⟨b, hb, h2⟩ := h
        rcases List.mem_cons.1 hb with e | e
        · rw [e, ha] at h2; cases h2
        · exact ⟨b, e, h2⟩
      rw [if_neg (by simp), if_neg (by simp), insE_some this C]; rfl
theorem lessE_tot {a b : Ent} (h : ¬ (a.key = b.key ∧ a.seq = b.seq)) : lessE a b = true ∨ lessE b a = true := by
  unfold lessE
  by_cases hk : a.key = b.key
  · rw [if_pos hk, if_pos hk.symm, decide_eq_true_eq, decide_eq_true_eq]
    have : a.seq ≠ b.seq := fun e => h ⟨hk, e⟩
    omega
  · rw [if_neg hk, if_neg (fun e => hk e.symm)]
    exact bl_total hk
/-- in order: each is ahead of all behind it -/
theorem sorted_pw {L : List Ent} : sortedE L = true ↔ L.Pairwise fun a b => lessE a b = true := by
  constructor
  · intro h
    rw [List.pairwise_iff_getElem]
    intro i j hi hj hij
    have := sorted_lt h hij hj
    rwa [List.getD_eq_getElem?_getD, List.getD_eq_getElem?_getD, List.getElem?_eq_getElem hi, List.getElem?_eq_getElem hj] at this
  · intro h
    rw [List.pairwise_iff_getElem] at h
    unfold sortedE srtU
    rw [List.all_eq_true]
    intro i hi
    rw [List.mem_range] at hi
    have := h i (i + 1) (by omega) (by omega) (by omega)
    rwa [List.getD_eq_getElem?_getD, List.getD_eq_getElem?_getD, List.getElem?_eq_getElem (by omega : i < L.length), List.getElem?_eq_getElem (by omega : i + 1 < L.length)]
theorem insE_pw {x : Ent} : ∀ {L : List Ent}, L.Pairwise (fun a b => lessE a b = true) → hasE L x = false → (insE x L).Pairwise fun a b => lessE a b = true
  | [], _, _ => by simp [insE]
  | a :: L, h, hx => by
    rw [List.pairwise_cons] at h
    unfold insE
    cases ha : lessE x a with
    | true =>
      rw [if_pos rfl, List.pairwise_cons]
      refine ⟨fun b hb => ?_, List.pairwise_cons.2 h⟩
      rcases List.mem_cons.1 hb with e | e
      · rw [e]; exact ha
      · exact lessE_trans ha (h.1 b e)
    | false =>
      rw [if_neg (by simp), List.pairwise_cons]
      have hna : ¬ (x.key = a.key ∧ x.seq = a.seq) := fun e => by
        have : hasE (a :: L) x = true := hasE_mem.2 ⟨a, by simp, e.1.symm, e.2.symm⟩
        rw [this] at hx; cases hx
      have hax : lessE a x = true := (lessE_tot hna).resolve_left (by rw [ha]; simp)
      have hLx : hasE L x = false := by
        cases hh : hasE L x with
        | false => rfl
        | true =>
          obtain ⟨b, hb, e⟩ := hasE_mem.1 hh
          have : hasE (a :: L) x = true := hasE_mem.2 ⟨b, List.mem_cons_of_mem _ hb, e⟩
          rw [this] at hx; cases hx
      refine ⟨fun b hb => ?_, insE_pw h.2 hLx⟩
      rcases insE_mem.1 hb with e | e
      · rw [e]; exact hax
      · exact h.1 b e
theorem insE_sorted {x : Ent} {L : List Ent} (h : sortedE L = true) (hx : hasE L x = false) : sortedE (insE x L) = true := sorted_pw.2 (insE_pw (sorted_pw.1 h) hx)
theorem addE_sorted {x : Ent} {L : List Ent} (h : sortedE L = true) : sortedE (addE L x) = true := by
  unfold addE
  split
  · exact h
  · rename_i hc; exact insE_sorted h (by simpa using hc)
theorem addE_len (x : Ent) (L : List Ent) : (addE L x).length ≤ L.length + 1 := by
  unfold addE
  split
  · exact Nat.le_succ _
  · exact Nat.le_of_eq (insE_len x L)
/-- rows in order with the same entries are the same -/
theorem pw_ext : ∀ {A C : List Ent}, A.Pairwise (fun a b => lessE a b = true) → C.Pairwise (fun a b => lessE a b = true) → (∀ a, a ∈ A ↔ a ∈ C) → A = C
  | [], [], _, _, _ => rfl
  | [], c :: C, _, _, h => by have := (h c).2 (by simp); cases this
  | a :: A, [], _, _, h => by have := (h a).1 (by simp); cases this
  | a :: A, c :: C, h1, h2, h => by
    rw [List.pairwise_cons] at h1 h2
    have irr : ∀ x : Ent, ¬ lessE x x = true := fun x hx => by have := lessE_asym hx; rw [hx] at this; cases this
    have e : a = c := by
      rcases List.mem_cons.1 ((h a).1 (by simp)) with e | e
      · exact e
      · rcases List.mem_cons.1 ((h c).2 (by simp)) with e2 | e2
        · exact e2.symm
        · have := lessE_asym (h1.1 c e2); rw [h2.1 a e] at this; cases this
    subst e
    congr 1
    refine pw_ext h1.2 h2.2 fun x => ?_
    constructor
    · intro hx
      rcases List.mem_cons.1 ((h x).1 (List.mem_cons_of_mem _ hx)) with e | e
      · rw [e] at hx; exact absurd (h1.1 a hx) (irr a)
      · exact e
    · intro hx
      rcases List.mem_cons.1 ((h x).2 (List.mem_cons_of_mem _ hx)) with e | e
      · rw [e] at hx; exact absurd (h2.1 a hx) (irr a)
      · exact e
theorem sorted_ext {A C : List Ent} (h1 : sortedE A = true) (h2 : sortedE C = true) (h : ∀ a, a ∈ A ↔ a ∈ C) : A = C := pw_ext (sorted_pw.1 h1) (sorted_pw.1 h2) h
end Go.Proofs.Ytnjgoggnhdpnoaa

set_option linter.all false
namespace Go.Proofs.Ytnjgoggnhdpnoaa
open Go Go.Ev
/-- in order, two places -/
theorem pw_at {L : List Ent} (h : sortedE L = true) {i j : Nat} (hij : i < j) (hj : j < L.length) : lessE (L.getD i default) (L.getD j default) = true := sorted_lt h hij hj
theorem getD_memE {L : List Ent} {i : Nat} (hi : i < L.length) : L.getD i default ∈ L := by rw [List.getD_eq_getElem?_getD, List.getElem?_eq_getElem hi]; simp
theorem mem_getD {L : List Ent} {a : Ent} (h : a ∈ L) : ∃ i, i < L.length ∧ L.getD i default = a := by
  obtain ⟨i, hi, rfl⟩ := List.getElem_of_mem h
  exact ⟨i, hi, by rw [List.getD_eq_getElem?_getD, List.getElem?_eq_getElem hi]; rfl⟩
theorem less_same {a b : Ent} (h : lessE a b = true) (hk : a.key = b.key) : b.seq < a.seq := by
  unfold lessE at h
  rw [if_pos hk, decide_eq_true_eq] at h; exact h
theorem less_of {a b : Ent} (hk : a.key = b.key) (h : b.seq < a.seq) : lessE a b = true := by unfold lessE; rw [if_pos hk, decide_eq_true_eq]; exact h
/-- of one key they stand together -/
theorem key_mid {a b c : Ent} (h1 : lessE a b = true) (h2 : lessE b c = true) (hk : a.key = c.key) : b.key = a.key := by
  refine Classical.byContradiction fun hne => ?_
  have h1' : Op.bytesLess a.key b.key = true := by unfold lessE at h1; rwa [if_neg (fun e => hne e.symm)] at h1
  have h2' : Op.bytesLess b.key c.key = true := by unfold lessE at h2; rwa [if_neg (fun e => hne (e.trans hk.symm))] at h2
  have := bl_trans h1' h2'
  rw [hk, bl_irr] at this; cases this
/-- a newer one of that key, up to s -/
def newer (L : List Ent) (e : Ent) (s : Int) : Bool := L.any fun a => decide (a.key = e.key ∧ e.seq < a.seq ∧ a.seq ≤ s)
theorem newer_iff {L : List Ent} {e : Ent} {s : Int} : newer L e s = true ↔ ∃ a ∈ L, a.key = e.key ∧ e.seq < a.seq ∧ a.seq ≤ s := by
  unfold newer; rw [List.any_eq_true]
  exact ⟨fun ⟨a, h1, h2⟩ => ⟨a, h1, of_decide_eq_true h2⟩, fun ⟨a, h1, h2⟩ => ⟨a, h1, decide_eq_true h2⟩⟩
/-- it stands just ahead -/
theorem newer_at {L : List Ent} (h : sortedE L = true) {i : Nat} (hi : i < L.length) {s : Int} :
    newer L (L.getD i default) s = true ↔ 0 < i ∧ (L.getD (i - 1) default).key = (L.getD i default).key ∧ (L.getD (i - 1) default).seq ≤ s := by
  rw [newer_iff]
  constructor
  · rintro ⟨a, ha, hk, h1, h2⟩
    obtain ⟨j, hj, rfl⟩ := mem_getD ha
    have hji : j < i := by
      rcases Nat.lt_trichotomy j i with h3 | h3 | h3
      · exact h3
      · subst h3; omega
      · have := less_same (pw_at h h3 hj) hk.symm; omega
    refine ⟨by omega, ?_⟩
    by_cases e : j = i - 1
    · rw [← e]; exact ⟨hk, h2⟩
    · have a1 := pw_at h (show j < i - 1 by omega) (by omega)
      have a2 := pw_at h (show i - 1 < i by omega) hi
      have hk2 := key_mid a1 a2 hk
      have := less_same a1 hk2.symm
      exact ⟨hk2.trans hk, by omega⟩
  · rintro ⟨h0, hk, h2⟩
    exact ⟨_, getD_memE (by omega), hk, less_same (pw_at h (show i - 1 < i by omega) hi) hk, h2⟩
/-- what is seen by s -/
def visP (L : List Ent) (s : Int) (e : Ent) : Bool := decide (e.seq ≤ s) && !newer L e s && !e.del
def visE (L : List Ent) (s : Int) : List Ent := if sortedE L then L.filter (visP L s) else []
theorem visE_un {L : List Ent} {s : Int} (h : sortedE L = false) : visE L s = [] := by unfold visE; rw [h]; rfl
theorem visE_ok {L : List Ent} {s : Int} (h : sortedE L = true) : visE L s = L.filter (visP L s) := by unfold visE; rw [h]; rfl
/-- what is kept: somebody sees it, or it is the newest -/
def wantP (L : List Ent) (held : List Int) (e : Ent) : Bool := ((1000000 : Int) :: held).any fun n => decide (e.seq ≤ n) && !newer L e n
/-- from the end on, deleted ones of which nothing older is left go -/
def botE : List Ent → List Ent
  | [] => []
  | x :: K => if x.del = true ∧ (botE K = [] ∨ ((botE K).getD 0 default).key ≠ x.key) then botE K else x :: botE K
theorem botE_del {x : Ent} {K : List Ent} (h : x.del = true) (h2 : botE K = [] ∨ ((botE K).getD 0 default).key ≠ x.key) : botE (x :: K) = botE K := if_pos ⟨h, h2⟩
theorem botE_put {x : Ent} {K : List Ent} (h : x.del = false) : botE (x :: K) = x :: botE K := if_neg (by rw [h]; rintro ⟨h, _⟩; cases h)
theorem botE_same {x : Ent} {K : List Ent} (h1 : botE K ≠ []) (h2 : ((botE K).getD 0 default).key = x.key) : botE (x :: K) = x :: botE K := if_neg (by rintro ⟨_, h | h⟩; exact h1 h; exact h h2)
theorem botE_sub : ∀ K : List Ent, (botE K).Sublist K
  | [] => List.Sublist.slnil
  | x :: K => by
    show (if _ then _ else _ : List Ent).Sublist _
    split
    · exact (botE_sub K).cons x
    · exact (botE_sub K).cons_cons x
def packE (L : List Ent) (held : List Int) (bottom : Bool) : List Ent :=
  if L.all isE && sortedE L then (if bottom then botE (L.filter (wantP L held)) else L.filter (wantP L held)) else []
theorem packE_bad {L : List Ent} {held : List Int} {b : Bool} (h : L.all isE = false ∨ sortedE L = false) : packE L held b = [] := by
  unfold packE
  rcases h with h | h <;> rw [h]
  · rfl
  · rw [Bool.and_false]; rfl
theorem packE_ok {L : List Ent} {held : List Int} {b : Bool} (h1 : L.all isE = true) (h2 : sortedE L = true) : packE L held b = if b then botE (L.filter (wantP L held)) else L.filter (wantP L held) := by
  unfold packE; rw [h1, h2]; rfl
theorem sub_sorted {A L : List Ent} (h : A.Sublist L) (hs : sortedE L = true) : sortedE A = true := sorted_pw.2 ((sorted_pw.1 hs).sublist h)
theorem packE_sub {L : List Ent} {held : List Int} {b : Bool} : (packE L held b).Sublist L := by
  unfold packE
  split
  · split
    · exact (botE_sub _).trans List.filter_sublist
    · exact List.filter_sublist
  · exact List.nil_sublist _
/-- rows put together, one by one -/
def addsE (L M : List Ent) : List Ent := M.foldl addE L
theorem addsE_snoc (L M : List Ent) (x : Ent) : addsE L (M ++ [x]) = addE (addsE L M) x := by unfold addsE; rw [List.foldl_append]; rfl
theorem addsE_sorted {M : List Ent} : ∀ {L : List Ent}, sortedE L = true → sortedE (addsE L M) = true := by
  induction M with
  | nil => exact fun h => h
  | cons x M ih => exact fun h => ih (L := addE _ x) (addE_sorted h)
theorem addsE_len {M : List Ent} : ∀ {L : List Ent}, (addsE L M).length ≤ L.length + M.length := by
  induction M with
  | nil => exact fun {L} => Nat.le_refl _
  | cons x M ih =>
    intro L
    have h1 := ih (L := addE L x)
    have h2 := addE_len x L
    show (addsE (addE L x) M).length ≤ _
    rw [List.length_cons]; omega
theorem addsE_app (L A C : List Ent) : addsE L (A ++ C) = addsE (addsE L A) C := by unfold addsE; rw [List.foldl_append]
def rowsE (R : List (List Ent)) : List Ent × Bool := if R.all sortedE then (addsE [] R.flatten, true) else ([], false)
theorem rowsE_bad {R : List (List Ent)} (h : R.all sortedE = false) : rowsE R = ([], false) := by unfold rowsE; rw [h]; rfl
theorem rowsE_ok {R : List (List Ent)} (h : R.all sortedE = true) : rowsE R = (addsE [] R.flatten, true) := by unfold rowsE; rw [h]; rfl
end Go.Proofs.Ytnjgoggnhdpnoaa

set_option linter.all false
namespace Go.Proofs.Ytnjgoggnhdpnoaa
open Go Go.Ev
theorem addsE_from {M : List Ent} : ∀ {L : List Ent} {a : Ent}, a ∈ addsE L M → a ∈ L ∨ a ∈ M := by
  induction M with
  | nil => exact fun h => .inl h
  | cons x M ih =>
    intro L a h
    rcases ih (L := addE L x) h with h | h
    · unfold addE at h
      split at h
      · exact .inl h
      · rcases insE_mem.1 h with e | e
        · exact .inr (by rw [e]; simp)
        · exact .inl e
    · exact .inr (List.mem_cons_of_mem _ h)
theorem addsE_keep {M : List Ent} : ∀ {L : List Ent} {a : Ent}, a ∈ L → a ∈ addsE L M := by
  induction M with
  | nil => exact fun h => h
  | cons x M ih =>
    intro L a h
    refine ih (L := addE L x) ?_
    unfold addE
    split
    · exact h
    · exact insE_mem.2 (.inr h)
theorem addsE_has {M : List Ent} : ∀ {L : List Ent} {x : Ent}, x ∈ M → ∃ a ∈ addsE L M, a.key = x.key ∧ a.seq = x.seq := by
  induction M with
  | nil => exact fun h => by cases h
  | cons y M ih =>
    intro L x h
    rcases List.mem_cons.1 h with e | e
    · subst e
      have : ∃ a ∈ addE L x, a.key = x.key ∧ a.seq = x.seq := by
        unfold addE
        cases hh : hasE L x with
        | true => exact hasE_mem.1 hh
        | false => exact ⟨x, insE_mem.2 (.inl rfl), rfl, rfl⟩
      obtain ⟨a, h1, h2⟩ := this
      exact ⟨a, addsE_keep (L := addE L x) h1, h2⟩
    · exact ih (L := addE L y) e
/-- all of a row in order, in whatever way, are the row -/
theorem addsE_row {R M : List Ent} (hs : sortedE R = true) (h1 : ∀ a ∈ M, a ∈ R) (h2 : ∀ a ∈ R, a ∈ M) : addsE [] M = R := by
  have hu : ∀ a ∈ R, ∀ b ∈ R, a.key = b.key → a.seq = b.seq → a = b := fun a ha b hb hk hq => by
    obtain ⟨i, hi, rfl⟩ := mem_getD ha
    obtain ⟨j, hj, rfl⟩ := mem_getD hb
    rcases Nat.lt_trichotomy i j with h | h | h
    · have := less_same (pw_at hs h hj) hk; omega
    · rw [h]
    · have := less_same (pw_at hs h hi) hk.symm; omega
  have hf : ∀ a, a ∈ addsE [] M → a ∈ R := fun a ha => by
    rcases addsE_from ha with h | h
    · cases h
    · exact h1 a h
  refine sorted_ext (addsE_sorted (L := []) rfl) hs fun a => ⟨hf a, fun ha => ?_⟩
  obtain ⟨b, b1, b2, b3⟩ := addsE_has (L := []) (h2 a ha)
  rw [← hu b (hf b b1) a ha b2 b3]; exact b1
end Go.Proofs.Ytnjgoggnhdpnoaa

set_option maxRecDepth 1000000
set_option linter.all false
namespace Go.Proofs.Ytnjgoggnhdpnoaa
open Go Go.Ev
noncomputable abbrev s23_0 : CC := (CC.cond (tm 11) CC.skip (CC.exit 0))
noncomputable abbrev s23_1 : CC := (CC.seq (CC.region [(wB 8 (doMove (tm 7))), (wB 9 (doMove (tm 0))), (wB 10 (doLen (tm 9))), (wB 11 (bin2 fLss (tm 8) (tm 10)))]) s23_0)
noncomputable abbrev s23_2 : CC := (CC.seq (CC.region [(wB 32 (doMove (tm 0))), (wB 4 (doMove (tm 32)))]) CC.ret)
noncomputable abbrev s23_3 : CC := (CC.cond (tm 31) s23_2 CC.skip)
noncomputable abbrev s23_4 : CC := (CC.seq (CC.draws [(uB 14 (doMove (tm 0))), (uB 15 (doMove (tm 7))), (uB 16 (doIndexAddr 4 (tm 14) (tm 15))), (uB 17 (doFieldAddr 0 (tm 16))), (uB 18 (doLoad (tm 17))), (uB 19 (doFieldAddr 0 (tm 3))), (uB 20 (doLoad (tm 19))), (uB 21 (doSCmp eqS (tm 18) (tm 20))), (uB 22 (doMove (tm 21))), (uG 22 true 23 (doMove (tm 0))), (uG 22 true 24 (doMove (tm 7))), (uG 22 true 25 (doIndexAddr 4 (tm 23) (tm 24))), (uG 22 true 26 (doFieldAddr 1 (tm 25))), (uG 22 true 27 (doLoad (tm 26))), (uG 22 true 28 (doFieldAddr 1 (tm 3))), (uG 22 true 29 (doLoad (tm 28))), (uG 22 true 30 (bin2 fEql (tm 27) (tm 29))), (uB 31 (doPick (tm 22) (tm 30) (O.c (V.b Bool.false))))]) s23_3)
noncomputable abbrev s23_5 : CC := (CC.seq (CC.region [(wB 43 (doMove (tm 5))), (wB 44 (doLoadA 4 (tm 3))), (wB 45 (doBuildSlice 39 1 [(V.s 0 0), (V.i IntKind.i64 (Int.ofNat 0)), (V.b Bool.false), (V.s 0 0)] [(Pt.mk 0 4 (tm 44))])), (wB 46 (doAppend 39 4 (tm 43) (tm 45))), (wB 5 (doMove (tm 46)))]) (CC.region [(wB 6 (doMove (O.c (V.b Bool.true))))]))
noncomputable abbrev s23_6 : CC := (CC.cond (tm 42) s23_5 CC.skip)
noncomputable abbrev s23_7 : CC := (CC.seq (CC.draws [(uB 33 (doMove (tm 6))), (uB 34 (doNot (tm 33))), (uB 35 (doMove (tm 34))), (uG 35 true 36 (doLoadA 4 (tm 3))), (uG 35 true 37 (doMove (tm 0))), (uG 35 true 38 (doMove (tm 7))), (uG 35 true 39 (doIndexAddr 4 (tm 37) (tm 38))), (uG 35 true 40 (doLoadA 4 (tm 39))), (wG 35 true 41 (doCall 31 [(tm 36), (tm 40)])), (uB 42 (doPick (tm 35) (tm 41) (O.c (V.b Bool.false))))]) s23_6)
noncomputable abbrev s23_8 : CC := (CC.region [(wB 47 (doMove (tm 5))), (wB 48 (doMove (tm 0))), (wB 49 (doMove (tm 7))), (wB 50 (doIndexAddr 4 (tm 48) (tm 49))), (wB 51 (doLoadA 4 (tm 50))), (wB 52 (doBuildSlice 39 1 [(V.s 0 0), (V.i IntKind.i64 (Int.ofNat 0)), (V.b Bool.false), (V.s 0 0)] [(Pt.mk 0 4 (tm 51))])), (wB 53 (doAppend 39 4 (tm 47) (tm 52))), (wB 5 (doMove (tm 53)))])
noncomputable abbrev s23_9 : CC := (CC.seq s23_7 s23_8)
noncomputable abbrev s23_10 : CC := (CC.seq s23_4 s23_9)
noncomputable abbrev s23_11 : CC := (CC.block 1 s23_10)
noncomputable abbrev s23_12 : CC := (CC.region [(wB 12 (doMove (tm 7))), (wB 13 (bin2 fAdd (tm 12) (oN 1))), (wB 7 (doMove (tm 13)))])
noncomputable abbrev s23_13 : CC := (CC.seq s23_11 s23_12)
noncomputable abbrev l23_0 : CC := (CC.seq s23_1 s23_13)
noncomputable abbrev s23_14 : CC := (CC.loop l23_0)
noncomputable abbrev s23_15 : CC := (CC.block 0 s23_14)
noncomputable abbrev s23_16 : CC := (CC.seq (CC.region [(wB 7 (doMove (oN 0)))]) s23_15)
noncomputable abbrev s23_17 : CC := (CC.region [(wB 56 (doMove (tm 5))), (wB 57 (doLoadA 4 (tm 3))), (wB 58 (doBuildSlice 39 1 [(V.s 0 0), (V.i IntKind.i64 (Int.ofNat 0)), (V.b Bool.false), (V.s 0 0)] [(Pt.mk 0 4 (tm 57))])), (wB 59 (doAppend 39 4 (tm 56) (tm 58))), (wB 5 (doMove (tm 59)))])
noncomputable abbrev s23_18 : CC := (CC.cond (tm 55) s23_17 CC.skip)
noncomputable abbrev s23_19 : CC := (CC.seq (CC.region [(wB 54 (doMove (tm 6))), (wB 55 (doNot (tm 54)))]) s23_18)
noncomputable abbrev s23_20 : CC := (CC.seq (CC.region [(wB 60 (doMove (tm 5))), (wB 4 (doMove (tm 60)))]) CC.ret)
noncomputable abbrev s23_21 : CC := (CC.seq s23_19 s23_20)
noncomputable abbrev s23_22 : CC := (CC.seq s23_16 s23_21)
noncomputable abbrev s23_23 : CC := (CC.seq (CC.region [(wB 6 (doMove (O.c (V.b Bool.false))))]) s23_22)
noncomputable abbrev s23_24 : CC := (CC.seq (CC.region [(wB 5 (doMove (O.c V.l0)))]) s23_23)
noncomputable abbrev b23 : CC := (CC.seq (CC.region [(wB 3 (doBox 39 (tm 1))), (wB 4 (doMove (O.c V.l0)))]) s23_24)
theorem c23 : compFn Try.prog 23 = ⟨61, b23, [(Rs.tmp (slOf 4))]⟩ := by kernel_rfl
noncomputable abbrev s12_0 : CC := (CC.cond (tm 10) CC.skip (CC.exit 0))
noncomputable abbrev s12_1 : CC := (CC.seq (CC.region [(wB 7 (doMove (tm 5))), (wB 8 (doMove (tm 0))), (wB 9 (doLen (tm 8))), (wB 10 (bin2 fLss (tm 7) (tm 9)))]) s12_0)
noncomputable abbrev s12_2 : CC := (CC.seq (CC.region [(wB 2 (doMove (O.c V.l0))), (wB 3 (doMove (O.c (V.b Bool.false))))]) CC.ret)
noncomputable abbrev s12_3 : CC := (CC.cond (tm 18) s12_2 CC.skip)
noncomputable abbrev s12_4 : CC := (CC.seq (CC.region [(wB 13 (doMove (tm 0))), (wB 14 (doMove (tm 5))), (wB 15 (doIndexAddr 1 (tm 13) (tm 14))), (wB 16 (doLoad (tm 15))), (wB 17 (doCall 18 [(tm 16)])), (wB 18 (doNot (tm 17)))]) s12_3)
noncomputable abbrev s12_5 : CC := (CC.cond (tm 25) CC.skip (CC.exit 2))
noncomputable abbrev s12_6 : CC := (CC.seq (CC.region [(wB 19 (doMove (tm 6))), (wB 20 (doMove (tm 0))), (wB 21 (doMove (tm 5))), (wB 22 (doIndexAddr 1 (tm 20) (tm 21))), (wB 23 (doLoad (tm 22))), (wB 24 (doLen (tm 23))), (wB 25 (bin2 fLss (tm 19) (tm 24)))]) s12_5)
noncomputable abbrev s12_7 : CC := (CC.region [(wB 28 (doMove (tm 4))), (wB 29 (doMove (tm 0))), (wB 30 (doMove (tm 5))), (wB 31 (doIndexAddr 1 (tm 29) (tm 30))), (wB 32 (doLoad (tm 31))), (wB 33 (doMove (tm 6))), (wB 34 (doIndexAddr 4 (tm 32) (tm 33))), (wB 35 (doLoadA 4 (tm 34))), (wB 36 (doCall 23 [(tm 28), (tm 35)])), (wB 4 (doMove (tm 36)))])
noncomputable abbrev s12_8 : CC := (CC.block 3 s12_7)
noncomputable abbrev s12_9 : CC := (CC.region [(wB 26 (doMove (tm 6))), (wB 27 (bin2 fAdd (tm 26) (oN 1))), (wB 6 (doMove (tm 27)))])
noncomputable abbrev s12_10 : CC := (CC.seq s12_8 s12_9)
noncomputable abbrev l12_0 : CC := (CC.seq s12_6 s12_10)
noncomputable abbrev s12_11 : CC := (CC.loop l12_0)
noncomputable abbrev s12_12 : CC := (CC.block 2 s12_11)
noncomputable abbrev s12_13 : CC := (CC.seq (CC.region [(wB 6 (doMove (oN 0)))]) s12_12)
noncomputable abbrev s12_14 : CC := (CC.seq s12_4 s12_13)
noncomputable abbrev s12_15 : CC := (CC.block 1 s12_14)
noncomputable abbrev s12_16 : CC := (CC.region [(wB 11 (doMove (tm 5))), (wB 12 (bin2 fAdd (tm 11) (oN 1))), (wB 5 (doMove (tm 12)))])
noncomputable abbrev s12_17 : CC := (CC.seq s12_15 s12_16)
noncomputable abbrev l12_1 : CC := (CC.seq s12_1 s12_17)
noncomputable abbrev s12_18 : CC := (CC.loop l12_1)
noncomputable abbrev s12_19 : CC := (CC.block 0 s12_18)
noncomputable abbrev s12_20 : CC := (CC.seq (CC.region [(wB 5 (doMove (oN 0)))]) s12_19)
noncomputable abbrev s12_21 : CC := (CC.seq (CC.region [(wB 37 (doMove (tm 4))), (wB 2 (doMove (tm 37))), (wB 3 (doMove (O.c (V.b Bool.true))))]) CC.ret)
noncomputable abbrev s12_22 : CC := (CC.seq s12_20 s12_21)
noncomputable abbrev s12_23 : CC := (CC.seq (CC.region [(wB 4 (doMove (O.c V.l0)))]) s12_22)
noncomputable abbrev b12 : CC := (CC.seq (CC.region [(wB 2 (doMove (O.c V.l0))), (wB 3 (doMove (O.c (V.b Bool.false))))]) s12_23)
theorem c12 : compFn Try.prog 12 = ⟨38, b12, [(Rs.tmp (slOf 2)), (Rs.tmp (slOf 3))]⟩ := by kernel_rfl
noncomputable abbrev s15_0 : CC := (CC.cond (tm 15) CC.skip (CC.exit 0))
noncomputable abbrev s15_1 : CC := (CC.seq (CC.region [(wB 8 (doMove (tm 6))), (wB 9 (doMove (tm 0))), (wB 10 (doLen (tm 9))), (wB 11 (bin2 fLss (tm 8) (tm 10))), (wB 12 (doMove (tm 11))), (wG 12 true 13 (doMove (tm 0))), (wG 12 true 14 (doCall 18 [(tm 13)])), (wB 15 (doPick (tm 12) (tm 14) (O.c (V.b Bool.false))))]) s15_0)
noncomputable abbrev s15_2 : CC := (CC.region [(wB 62 (doMove (tm 5))), (wB 63 (doMove (tm 0))), (wB 64 (doMove (tm 6))), (wB 65 (doIndexAddr 4 (tm 63) (tm 64))), (wB 66 (doLoadA 4 (tm 65))), (wB 67 (doBuildSlice 39 1 [(V.s 0 0), (V.i IntKind.i64 (Int.ofNat 0)), (V.b Bool.false), (V.s 0 0)] [(Pt.mk 0 4 (tm 66))])), (wB 68 (doAppend 39 4 (tm 62) (tm 67))), (wB 5 (doMove (tm 68)))])
noncomputable abbrev s15_3 : CC := (CC.cond (tm 61) s15_2 CC.skip)
noncomputable abbrev s15_4 : CC := (CC.seq (CC.region [(wB 53 (doMove (tm 7))), (wB 54 (doMove (tm 53))), (wG 54 true 55 (doMove (tm 0))), (wG 54 true 56 (doMove (tm 6))), (wG 54 true 57 (doIndexAddr 4 (tm 55) (tm 56))), (wG 54 true 58 (doFieldAddr 2 (tm 57))), (wG 54 true 59 (doLoad (tm 58))), (wG 54 true 60 (doNot (tm 59))), (wB 61 (doPick (tm 54) (tm 60) (O.c (V.b Bool.false))))]) s15_3)
noncomputable abbrev s15_5 : CC := (CC.seq (CC.draws [(uB 18 (doMove (tm 0))), (uB 19 (doMove (tm 6))), (uB 20 (doIndexAddr 4 (tm 18) (tm 19))), (uB 21 (doFieldAddr 1 (tm 20))), (wB 22 (doLoad (tm 21))), (uB 23 (doMove (tm 1))), (uB 24 (bin2 fLeq (tm 22) (tm 23))), (uB 25 (doMove (tm 24))), (uG 25 true 26 (doMove (tm 6))), (uG 25 true 27 (bin2 fEql (tm 26) (oN 0))), (uG 25 true 28 (doMove (tm 27))), (uG 28 false 29 (doMove (tm 0))), (uG 28 false 30 (doMove (tm 6))), (uG 28 false 31 (bin2 fSub (tm 30) (oN 1))), (uG 28 false 32 (doIndexAddr 4 (tm 29) (tm 31))), (uG 28 false 33 (doFieldAddr 0 (tm 32))), (uG 28 false 34 (doLoad (tm 33))), (uG 28 false 35 (doMove (tm 0))), (uG 28 false 36 (doMove (tm 6))), (uG 28 false 37 (doIndexAddr 4 (tm 35) (tm 36))), (uG 28 false 38 (doFieldAddr 0 (tm 37))), (uG 28 false 39 (doLoad (tm 38))), (uG 28 false 40 (doSCmp (fun a b c d => !eqS a b c d) (tm 34) (tm 39))), (uG 25 true 41 (doPick (tm 28) (O.c (V.b Bool.true)) (tm 40))), (uG 25 true 42 (doMove (tm 41))), (uG 42 false 43 (doMove (tm 0))), (uG 42 false 44 (doMove (tm 6))), (uG 42 false 45 (bin2 fSub (tm 44) (oN 1))), (uG 42 false 46 (doIndexAddr 4 (tm 43) (tm 45))), (uG 42 false 47 (doFieldAddr 1 (tm 46))), (wG 42 false 48 (doLoad (tm 47))), (uG 42 false 49 (doMove (tm 1))), (uG 42 false 50 (bin2 fGtr (tm 48) (tm 49))), (uG 25 true 51 (doPick (tm 42) (O.c (V.b Bool.true)) (tm 50))), (uB 52 (doPick (tm 25) (tm 51) (O.c (V.b Bool.false)))), (uB 7 (doMove (tm 52)))]) s15_4)
noncomputable abbrev s15_6 : CC := (CC.block 1 s15_5)
noncomputable abbrev s15_7 : CC := (CC.region [(wB 16 (doMove (tm 6))), (wB 17 (bin2 fAdd (tm 16) (oN 1))), (wB 6 (doMove (tm 17)))])
noncomputable abbrev s15_8 : CC := (CC.seq s15_6 s15_7)
noncomputable abbrev l15_0 : CC := (CC.seq s15_1 s15_8)
noncomputable abbrev s15_9 : CC := (CC.loop l15_0)
noncomputable abbrev s15_10 : CC := (CC.block 0 s15_9)
noncomputable abbrev s15_11 : CC := (CC.seq (CC.region [(wB 6 (doMove (oN 0)))]) s15_10)
noncomputable abbrev s15_12 : CC := (CC.seq (CC.region [(wB 69 (doMove (tm 5))), (wB 4 (doMove (tm 69)))]) CC.ret)
noncomputable abbrev s15_13 : CC := (CC.seq s15_11 s15_12)
noncomputable abbrev s15_14 : CC := (CC.seq (CC.region [(wB 5 (doMove (O.c V.l0)))]) s15_13)
noncomputable abbrev b15 : CC := (CC.seq (CC.region [(wB 4 (doMove (O.c V.l0)))]) s15_14)
theorem c15 : compFn Try.prog 15 = ⟨70, b15, [(Rs.tmp (slOf 4))]⟩ := by kernel_rfl
noncomputable abbrev s17_0 : CC := (CC.cond (tm 17) CC.skip (CC.exit 0))
noncomputable abbrev s17_1 : CC := (CC.seq (CC.region [(wB 14 (doMove (tm 7))), (wB 15 (doMove (tm 0))), (wB 16 (doLen (tm 15))), (wB 17 (bin2 fLss (tm 14) (tm 16)))]) s17_0)
noncomputable abbrev s17_2 : CC := (CC.seq (CC.region [(wB 6 (doMove (O.c V.l0)))]) CC.ret)
noncomputable abbrev s17_3 : CC := (CC.cond (tm 25) s17_2 CC.skip)
noncomputable abbrev s17_4 : CC := (CC.seq (CC.region [(wB 20 (doMove (tm 0))), (wB 21 (doMove (tm 7))), (wB 22 (doIndexAddr 4 (tm 20) (tm 21))), (wB 23 (doLoadA 4 (tm 22))), (wB 24 (doCall 19 [(tm 23)])), (wB 25 (doNot (tm 24)))]) s17_3)
noncomputable abbrev s17_5 : CC := (CC.block 1 s17_4)
noncomputable abbrev s17_6 : CC := (CC.region [(wB 18 (doMove (tm 7))), (wB 19 (bin2 fAdd (tm 18) (oN 1))), (wB 7 (doMove (tm 19)))])
noncomputable abbrev s17_7 : CC := (CC.seq s17_5 s17_6)
noncomputable abbrev l17_0 : CC := (CC.seq s17_1 s17_7)
noncomputable abbrev s17_8 : CC := (CC.loop l17_0)
noncomputable abbrev s17_9 : CC := (CC.block 0 s17_8)
noncomputable abbrev s17_10 : CC := (CC.seq (CC.region [(wB 7 (doMove (oN 0)))]) s17_9)
noncomputable abbrev s17_11 : CC := (CC.seq (CC.region [(wB 6 (doMove (O.c V.l0)))]) CC.ret)
noncomputable abbrev s17_12 : CC := (CC.cond (tm 28) s17_11 CC.skip)
noncomputable abbrev s17_13 : CC := (CC.seq (CC.region [(wB 26 (doMove (tm 0))), (wB 27 (doCall 18 [(tm 26)])), (wB 28 (doNot (tm 27)))]) s17_12)
noncomputable abbrev s17_14 : CC := (CC.cond (tm 32) CC.skip (CC.exit 2))
noncomputable abbrev s17_15 : CC := (CC.seq (CC.region [(wB 29 (doMove (tm 9))), (wB 30 (doMove (tm 0))), (wB 31 (doLen (tm 30))), (wB 32 (bin2 fLss (tm 29) (tm 31)))]) s17_14)
noncomputable abbrev s17_16 : CC := (CC.region [(wB 51 (doMove (tm 0))), (wB 52 (doMove (tm 9))), (wB 53 (bin2 fSub (tm 52) (oN 1))), (wB 54 (doIndexAddr 4 (tm 51) (tm 53))), (wB 55 (doFieldAddr 1 (tm 54))), (wB 56 (doLoad (tm 55))), (wB 10 (doMove (tm 56)))])
noncomputable abbrev s17_17 : CC := (CC.cond (tm 50) s17_16 CC.skip)
noncomputable abbrev s17_18 : CC := (CC.seq (CC.draws [(uB 35 (doMove (tm 9))), (uB 36 (bin2 fGtr (tm 35) (oN 0))), (uB 37 (doMove (tm 36))), (uG 37 true 38 (doMove (tm 0))), (uG 37 true 39 (doMove (tm 9))), (uG 37 true 40 (bin2 fSub (tm 39) (oN 1))), (uG 37 true 41 (doIndexAddr 4 (tm 38) (tm 40))), (uG 37 true 42 (doFieldAddr 0 (tm 41))), (uG 37 true 43 (doLoad (tm 42))), (uG 37 true 44 (doMove (tm 0))), (uG 37 true 45 (doMove (tm 9))), (uG 37 true 46 (doIndexAddr 4 (tm 44) (tm 45))), (uG 37 true 47 (doFieldAddr 0 (tm 46))), (uG 37 true 48 (doLoad (tm 47))), (uG 37 true 49 (doSCmp eqS (tm 43) (tm 48))), (uB 50 (doPick (tm 37) (tm 49) (O.c (V.b Bool.false))))]) s17_17)
noncomputable abbrev s17_19 : CC := (CC.cond (tm 70) CC.skip (CC.exit 4))
noncomputable abbrev s17_20 : CC := (CC.seq (CC.region [(wB 67 (doMove (tm 12))), (wB 68 (doMove (tm 1))), (wB 69 (doLen (tm 68))), (wB 70 (bin2 fLss (tm 67) (tm 69)))]) s17_19)
noncomputable abbrev s17_21 : CC := (CC.draws [(uB 73 (doMove (tm 11))), (uB 74 (doMove (tm 73))), (uG 74 false 75 (doMove (tm 1))), (uG 74 false 76 (doMove (tm 12))), (uG 74 false 77 (doIndexAddr 1 (tm 75) (tm 76))), (uG 74 false 78 (doLoad (tm 77))), (uG 74 false 79 (doMove (tm 0))), (uG 74 false 80 (doMove (tm 9))), (uG 74 false 81 (doIndexAddr 4 (tm 79) (tm 80))), (uG 74 false 82 (doFieldAddr 1 (tm 81))), (uG 74 false 83 (doLoad (tm 82))), (uG 74 false 84 (bin2 fGeq (tm 78) (tm 83))), (uG 74 false 85 (doMove (tm 84))), (uG 85 true 86 (doMove (tm 1))), (uG 85 true 87 (doMove (tm 12))), (uG 85 true 88 (doIndexAddr 1 (tm 86) (tm 87))), (wG 85 true 89 (doLoad (tm 88))), (uG 85 true 90 (doMove (tm 10))), (uG 85 true 91 (bin2 fLss (tm 89) (tm 90))), (uG 74 false 92 (doPick (tm 85) (tm 91) (O.c (V.b Bool.false)))), (uB 93 (doPick (tm 74) (O.c (V.b Bool.true)) (tm 92))), (uB 11 (doMove (tm 93)))])
noncomputable abbrev s17_22 : CC := (CC.block 5 s17_21)
noncomputable abbrev s17_23 : CC := (CC.region [(wB 71 (doMove (tm 12))), (wB 72 (bin2 fAdd (tm 71) (oN 1))), (wB 12 (doMove (tm 72)))])
noncomputable abbrev s17_24 : CC := (CC.seq s17_22 s17_23)
noncomputable abbrev l17_1 : CC := (CC.seq s17_20 s17_24)
noncomputable abbrev s17_25 : CC := (CC.loop l17_1)
noncomputable abbrev s17_26 : CC := (CC.block 4 s17_25)
noncomputable abbrev s17_27 : CC := (CC.seq (CC.region [(wB 12 (doMove (oN 0)))]) s17_26)
noncomputable abbrev s17_28 : CC := (CC.region [(wB 95 (doMove (tm 8))), (wB 96 (doMove (tm 0))), (wB 97 (doMove (tm 9))), (wB 98 (doIndexAddr 4 (tm 96) (tm 97))), (wB 99 (doLoadA 4 (tm 98))), (wB 100 (doBuildSlice 39 1 [(V.s 0 0), (V.i IntKind.i64 (Int.ofNat 0)), (V.b Bool.false), (V.s 0 0)] [(Pt.mk 0 4 (tm 99))])), (wB 101 (doAppend 39 4 (tm 95) (tm 100))), (wB 8 (doMove (tm 101)))])
noncomputable abbrev s17_29 : CC := (CC.cond (tm 94) s17_28 CC.skip)
noncomputable abbrev s17_30 : CC := (CC.seq (CC.region [(wB 94 (doMove (tm 11)))]) s17_29)
noncomputable abbrev s17_31 : CC := (CC.seq s17_27 s17_30)
noncomputable abbrev s17_32 : CC := (CC.seq (CC.region [(wB 57 (doMove (tm 0))), (wB 58 (doMove (tm 9))), (wB 59 (doIndexAddr 4 (tm 57) (tm 58))), (wB 60 (doFieldAddr 1 (tm 59))), (wB 61 (doLoad (tm 60))), (wB 62 (bin2 fLeq (tm 61) (oN 1000000))), (wB 63 (doMove (tm 62))), (wG 63 true 64 (doMove (tm 10))), (wG 63 true 65 (bin2 fGtr (tm 64) (oN 1000000))), (wB 66 (doPick (tm 63) (tm 65) (O.c (V.b Bool.false)))), (wB 11 (doMove (tm 66)))]) s17_31)
noncomputable abbrev s17_33 : CC := (CC.seq s17_18 s17_32)
noncomputable abbrev s17_34 : CC := (CC.seq (CC.region [(wB 10 (doMove (oN 1000001)))]) s17_33)
noncomputable abbrev s17_35 : CC := (CC.block 3 s17_34)
noncomputable abbrev s17_36 : CC := (CC.region [(wB 33 (doMove (tm 9))), (wB 34 (bin2 fAdd (tm 33) (oN 1))), (wB 9 (doMove (tm 34)))])
noncomputable abbrev s17_37 : CC := (CC.seq s17_35 s17_36)
noncomputable abbrev l17_2 : CC := (CC.seq s17_15 s17_37)
noncomputable abbrev s17_38 : CC := (CC.loop l17_2)
noncomputable abbrev s17_39 : CC := (CC.block 2 s17_38)
noncomputable abbrev s17_40 : CC := (CC.seq (CC.region [(wB 9 (doMove (oN 0)))]) s17_39)
noncomputable abbrev s17_41 : CC := (CC.cond (tm 109) CC.skip (CC.exit 6))
noncomputable abbrev s17_42 : CC := (CC.seq (CC.region [(wB 105 (doMove (tm 13))), (wB 106 (bin2 fGeq (tm 105) (oN 0))), (wB 107 (doMove (tm 106))), (wG 107 true 108 (doMove (tm 2))), (wB 109 (doPick (tm 107) (tm 108) (O.c (V.b Bool.false))))]) s17_41)
noncomputable abbrev s17_43 : CC := (CC.draws [(uB 138 (doMove (tm 8))), (uB 139 (doMove (tm 13))), (uB 140 (doSlice 4 (tm 138) none (some (tm 139)))), (wB 141 (doAppend 39 4 (O.c V.l0) (tm 140))), (uB 142 (doMove (tm 8))), (uB 143 (doMove (tm 13))), (uB 144 (bin2 fAdd (tm 143) (oN 1))), (uB 145 (doSlice 4 (tm 142) (some (tm 144)) none)), (wB 146 (doAppend 39 4 (tm 141) (tm 145))), (uB 8 (doMove (tm 146)))])
noncomputable abbrev s17_44 : CC := (CC.cond (tm 137) s17_43 CC.skip)
noncomputable abbrev s17_45 : CC := (CC.seq (CC.draws [(uB 112 (doMove (tm 8))), (uB 113 (doMove (tm 13))), (uB 114 (doIndexAddr 4 (tm 112) (tm 113))), (uB 115 (doFieldAddr 2 (tm 114))), (wB 116 (doLoad (tm 115))), (uB 117 (doMove (tm 116))), (uG 117 true 118 (doMove (tm 13))), (uG 117 true 119 (doMove (tm 8))), (uG 117 true 120 (doLen (tm 119))), (uG 117 true 121 (bin2 fSub (tm 120) (oN 1))), (uG 117 true 122 (bin2 fEql (tm 118) (tm 121))), (uG 117 true 123 (doMove (tm 122))), (uG 123 false 124 (doMove (tm 8))), (uG 123 false 125 (doMove (tm 13))), (uG 123 false 126 (bin2 fAdd (tm 125) (oN 1))), (uG 123 false 127 (doIndexAddr 4 (tm 124) (tm 126))), (uG 123 false 128 (doFieldAddr 0 (tm 127))), (uG 123 false 129 (doLoad (tm 128))), (uG 123 false 130 (doMove (tm 8))), (uG 123 false 131 (doMove (tm 13))), (uG 123 false 132 (doIndexAddr 4 (tm 130) (tm 131))), (uG 123 false 133 (doFieldAddr 0 (tm 132))), (uG 123 false 134 (doLoad (tm 133))), (uG 123 false 135 (doSCmp (fun a b c d => !eqS a b c d) (tm 129) (tm 134))), (uG 117 true 136 (doPick (tm 123) (O.c (V.b Bool.true)) (tm 135))), (uB 137 (doPick (tm 117) (tm 136) (O.c (V.b Bool.false))))]) s17_44)
noncomputable abbrev s17_46 : CC := (CC.block 7 s17_45)
noncomputable abbrev s17_47 : CC := (CC.region [(wB 110 (doMove (tm 13))), (wB 111 (bin2 fSub (tm 110) (oN 1))), (wB 13 (doMove (tm 111)))])
noncomputable abbrev s17_48 : CC := (CC.seq s17_46 s17_47)
noncomputable abbrev l17_3 : CC := (CC.seq s17_42 s17_48)
noncomputable abbrev s17_49 : CC := (CC.loop l17_3)
noncomputable abbrev s17_50 : CC := (CC.block 6 s17_49)
noncomputable abbrev s17_51 : CC := (CC.seq (CC.region [(wB 102 (doMove (tm 8))), (wB 103 (doLen (tm 102))), (wB 104 (bin2 fSub (tm 103) (oN 1))), (wB 13 (doMove (tm 104)))]) s17_50)
noncomputable abbrev s17_52 : CC := (CC.seq (CC.region [(wB 147 (doMove (tm 8))), (wB 6 (doMove (tm 147)))]) CC.ret)
noncomputable abbrev s17_53 : CC := (CC.seq s17_51 s17_52)
noncomputable abbrev s17_54 : CC := (CC.seq s17_40 s17_53)
noncomputable abbrev s17_55 : CC := (CC.seq (CC.region [(wB 8 (doMove (O.c V.l0)))]) s17_54)
noncomputable abbrev s17_56 : CC := (CC.seq s17_13 s17_55)
noncomputable abbrev s17_57 : CC := (CC.seq s17_10 s17_56)
noncomputable abbrev b17 : CC := (CC.seq (CC.region [(wB 6 (doMove (O.c V.l0)))]) s17_57)
theorem c17 : compFn Try.prog 17 = ⟨148, b17, [(Rs.tmp (slOf 6))]⟩ := by kernel_rfl
noncomputable abbrev s10_0 : CC := (CC.cond (tm 7) CC.skip (CC.exit 0))
noncomputable abbrev s10_1 : CC := (CC.seq (CC.region [(wB 4 (doMove (tm 3))), (wB 5 (doMove (tm 0))), (wB 6 (doLen (tm 5))), (wB 7 (bin2 fLss (tm 4) (tm 6)))]) s10_0)
noncomputable abbrev s10_2 : CC := (CC.seq (CC.region [(wB 2 (doMove (O.c (V.b Bool.false))))]) CC.ret)
noncomputable abbrev s10_3 : CC := (CC.cond (tm 25) s10_2 CC.skip)
noncomputable abbrev s10_4 : CC := (CC.seq (CC.region [(wB 10 (doMove (tm 0))), (wB 11 (doMove (tm 3))), (wB 12 (doIndexAddr 4 (tm 10) (tm 11))), (wB 13 (doFieldAddr 0 (tm 12))), (wB 14 (doLoad (tm 13))), (wB 15 (doLenS (tm 14))), (wB 16 (bin2 fGtr (tm 15) (oN 20))), (wB 17 (doMove (tm 16))), (wG 17 false 18 (doMove (tm 0))), (wG 17 false 19 (doMove (tm 3))), (wG 17 false 20 (doIndexAddr 4 (tm 18) (tm 19))), (wG 17 false 21 (doFieldAddr 3 (tm 20))), (wG 17 false 22 (doLoad (tm 21))), (wG 17 false 23 (doLenS (tm 22))), (wG 17 false 24 (bin2 fGtr (tm 23) (oN 40))), (wB 25 (doPick (tm 17) (O.c (V.b Bool.true)) (tm 24)))]) s10_3)
noncomputable abbrev s10_5 : CC := (CC.block 1 s10_4)
noncomputable abbrev s10_6 : CC := (CC.region [(wB 8 (doMove (tm 3))), (wB 9 (bin2 fAdd (tm 8) (oN 1))), (wB 3 (doMove (tm 9)))])
noncomputable abbrev s10_7 : CC := (CC.seq s10_5 s10_6)
noncomputable abbrev l10_0 : CC := (CC.seq s10_1 s10_7)
noncomputable abbrev s10_8 : CC := (CC.loop l10_0)
noncomputable abbrev s10_9 : CC := (CC.block 0 s10_8)
noncomputable abbrev s10_10 : CC := (CC.seq (CC.region [(wB 3 (doMove (oN 0)))]) s10_9)
noncomputable abbrev s10_11 : CC := (CC.seq (CC.region [(wB 26 (doMove (tm 0))), (wB 27 (doLen (tm 26))), (wB 28 (bin2 fLeq (tm 27) (oN 60))), (wB 2 (doMove (tm 28)))]) CC.ret)
noncomputable abbrev s10_12 : CC := (CC.seq s10_10 s10_11)
noncomputable abbrev b10 : CC := (CC.seq (CC.region [(wB 2 (doMove (O.c (V.b Bool.false))))]) s10_12)
theorem c10 : compFn Try.prog 10 = ⟨29, b10, [(Rs.tmp (slOf 2))]⟩ := by kernel_rfl
noncomputable abbrev s9_0 : CC := (CC.cond (tm 7) CC.skip (CC.exit 0))
noncomputable abbrev s9_1 : CC := (CC.seq (CC.region [(wB 4 (doMove (tm 3))), (wB 5 (doMove (tm 0))), (wB 6 (doLen (tm 5))), (wB 7 (bin2 fLss (tm 4) (tm 6)))]) s9_0)
noncomputable abbrev s9_2 : CC := (CC.seq (CC.region [(wB 2 (doMove (O.c (V.b Bool.false))))]) CC.ret)
noncomputable abbrev s9_3 : CC := (CC.cond (tm 23) s9_2 CC.skip)
noncomputable abbrev s9_4 : CC := (CC.seq (CC.region [(wB 10 (doMove (tm 0))), (wB 11 (doMove (tm 3))), (wB 12 (doIndexAddr 1 (tm 10) (tm 11))), (wB 13 (doLoad (tm 12))), (wB 14 (doCall 10 [(tm 13)])), (wB 15 (doNot (tm 14))), (wB 16 (doMove (tm 15))), (wG 16 false 17 (doMove (tm 0))), (wG 16 false 18 (doMove (tm 3))), (wG 16 false 19 (doIndexAddr 1 (tm 17) (tm 18))), (wG 16 false 20 (doLoad (tm 19))), (wG 16 false 21 (doLen (tm 20))), (wG 16 false 22 (bin2 fGtr (tm 21) (oN 25))), (wB 23 (doPick (tm 16) (O.c (V.b Bool.true)) (tm 22)))]) s9_3)
noncomputable abbrev s9_5 : CC := (CC.block 1 s9_4)
noncomputable abbrev s9_6 : CC := (CC.region [(wB 8 (doMove (tm 3))), (wB 9 (bin2 fAdd (tm 8) (oN 1))), (wB 3 (doMove (tm 9)))])
noncomputable abbrev s9_7 : CC := (CC.seq s9_5 s9_6)
noncomputable abbrev l9_0 : CC := (CC.seq s9_1 s9_7)
noncomputable abbrev s9_8 : CC := (CC.loop l9_0)
noncomputable abbrev s9_9 : CC := (CC.block 0 s9_8)
noncomputable abbrev s9_10 : CC := (CC.seq (CC.region [(wB 3 (doMove (oN 0)))]) s9_9)
noncomputable abbrev s9_11 : CC := (CC.seq (CC.region [(wB 24 (doMove (tm 0))), (wB 25 (doLen (tm 24))), (wB 26 (bin2 fLeq (tm 25) (oN 5))), (wB 2 (doMove (tm 26)))]) CC.ret)
noncomputable abbrev s9_12 : CC := (CC.seq s9_10 s9_11)
noncomputable abbrev b9 : CC := (CC.seq (CC.region [(wB 2 (doMove (O.c (V.b Bool.false))))]) s9_12)
theorem c9 : compFn Try.prog 9 = ⟨27, b9, [(Rs.tmp (slOf 2))]⟩ := by kernel_rfl
end Go.Proofs.Ytnjgoggnhdpnoaa

set_option maxRecDepth 1000000
set_option linter.all false
namespace Go.Proofs.Ytnjgoggnhdpnoaa
open Go Go.Ev
noncomputable abbrev s13_0 : CC := (CC.seq (CC.region [(wB 4 (doMove (O.c (V.b Bool.false))))]) CC.ret)
noncomputable abbrev s13_1 : CC := (CC.cond (tm 10) s13_0 CC.skip)
noncomputable abbrev s13_2 : CC := (CC.seq (CC.region [(wB 6 (doMove (tm 0))), (wB 7 (doLen (tm 6))), (wB 8 (doMove (tm 1))), (wB 9 (doLen (tm 8))), (wB 10 (bin2 fNeq (tm 7) (tm 9)))]) s13_1)
noncomputable abbrev s13_3 : CC := (CC.cond (tm 14) CC.skip (CC.exit 0))
noncomputable abbrev s13_4 : CC := (CC.seq (CC.region [(wB 11 (doMove (tm 5))), (wB 12 (doMove (tm 0))), (wB 13 (doLen (tm 12))), (wB 14 (bin2 fLss (tm 11) (tm 13)))]) s13_3)
noncomputable abbrev s13_5 : CC := (CC.seq (CC.region [(wB 4 (doMove (O.c (V.b Bool.false))))]) CC.ret)
noncomputable abbrev s13_6 : CC := (CC.cond (tm 25) s13_5 CC.skip)
noncomputable abbrev s13_7 : CC := (CC.seq (CC.draws [(uB 17 (doMove (tm 0))), (uB 18 (doMove (tm 5))), (uB 19 (doIndexAddr 4 (tm 17) (tm 18))), (uB 20 (doLoadA 4 (tm 19))), (uB 21 (doMove (tm 1))), (uB 22 (doMove (tm 5))), (uB 23 (doIndexAddr 4 (tm 21) (tm 22))), (uB 24 (doLoadA 4 (tm 23))), (uB 25 (doSEq [KD.s, KD.i, KD.b, KD.s] Bool.true (tm 20) (tm 24)))]) s13_6)
noncomputable abbrev s13_8 : CC := (CC.block 1 s13_7)
noncomputable abbrev s13_9 : CC := (CC.region [(wB 15 (doMove (tm 5))), (wB 16 (bin2 fAdd (tm 15) (oN 1))), (wB 5 (doMove (tm 16)))])
noncomputable abbrev s13_10 : CC := (CC.seq s13_8 s13_9)
noncomputable abbrev l13_0 : CC := (CC.seq s13_4 s13_10)
noncomputable abbrev s13_11 : CC := (CC.loop l13_0)
noncomputable abbrev s13_12 : CC := (CC.block 0 s13_11)
noncomputable abbrev s13_13 : CC := (CC.seq (CC.region [(wB 5 (doMove (oN 0)))]) s13_12)
noncomputable abbrev s13_14 : CC := (CC.seq (CC.region [(wB 4 (doMove (O.c (V.b Bool.true))))]) CC.ret)
noncomputable abbrev s13_15 : CC := (CC.seq s13_13 s13_14)
noncomputable abbrev s13_16 : CC := (CC.seq s13_2 s13_15)
noncomputable abbrev b13 : CC := (CC.seq (CC.region [(wB 4 (doMove (O.c (V.b Bool.false))))]) s13_16)
theorem c13 : compFn Try.prog 13 = ⟨26, b13, [(Rs.tmp (slOf 4))]⟩ := by kernel_rfl
end Go.Proofs.Ytnjgoggnhdpnoaa

set_option maxRecDepth 1000000
set_option linter.all false
namespace Go.Proofs.Ytnjgoggnhdpnoaa
open Go Go.Ev
noncomputable abbrev s37_0 : CC := (CC.seq (CC.region [(wB 3 (doFieldAddr 1 (tm 1))), (wB 4 (doLoad (tm 3))), (wB 5 (bin2 fGeq (tm 4) (oN 1))), (wB 6 (doMove (tm 5))), (wG 6 true 7 (doFieldAddr 1 (tm 1))), (wG 6 true 8 (doLoad (tm 7))), (wG 6 true 9 (bin2 fLeq (tm 8) (oN 1000000))), (wB 10 (doPick (tm 6) (tm 9) (O.c (V.b Bool.false)))), (wB 11 (doMove (tm 10))), (wG 11 true 12 (doFieldAddr 0 (tm 1))), (wG 11 true 13 (doLoad (tm 12))), (wG 11 true 14 (doFieldAddr 2 (tm 1))), (wG 11 true 15 (doLoad (tm 14))), (wG 11 true 16 (doFieldAddr 3 (tm 1))), (wG 11 true 17 (doLoad (tm 16))), (wG 11 true 18 (doBuild [(V.s 0 0), (V.b Bool.false), (V.s 0 0)] [(Pt.mk 0 1 (tm 13)), (Pt.mk 1 1 (tm 15)), (Pt.mk 2 1 (tm 17))])), (wG 11 true 19 (doCall 41 [(tm 18)])), (wB 20 (doPick (tm 11) (tm 19) (O.c (V.b Bool.false)))), (wB 2 (doMove (tm 20)))]) CC.ret)
noncomputable abbrev b37 : CC := (CC.seq (CC.region [(wB 1 (doBox 39 (tm 0))), (wB 2 (doMove (O.c (V.b Bool.false))))]) s37_0)
theorem c37 : compFn Try.prog 37 = ⟨21, b37, [(Rs.tmp (slOf 2))]⟩ := by kernel_rfl
noncomputable abbrev s33_0 : CC := (CC.seq (CC.region [(wB 10 (doFieldAddr 0 (tm 2))), (wB 11 (doLoad (tm 10))), (wB 12 (doFieldAddr 0 (tm 3))), (wB 13 (doLoad (tm 12))), (wB 14 (doSCmp ltS (tm 11) (tm 13))), (wB 4 (doMove (tm 14)))]) CC.ret)
noncomputable abbrev s33_1 : CC := (CC.cond (tm 9) s33_0 CC.skip)
noncomputable abbrev s33_2 : CC := (CC.seq (CC.region [(wB 5 (doFieldAddr 0 (tm 2))), (wB 6 (doLoad (tm 5))), (wB 7 (doFieldAddr 0 (tm 3))), (wB 8 (doLoad (tm 7))), (wB 9 (doSCmp (fun a b c d => !eqS a b c d) (tm 6) (tm 8)))]) s33_1)
noncomputable abbrev s33_3 : CC := (CC.seq (CC.region [(wB 15 (doFieldAddr 1 (tm 2))), (wB 16 (doLoad (tm 15))), (wB 17 (doFieldAddr 1 (tm 3))), (wB 18 (doLoad (tm 17))), (wB 19 (bin2 fGtr (tm 16) (tm 18))), (wB 4 (doMove (tm 19)))]) CC.ret)
noncomputable abbrev s33_4 : CC := (CC.seq s33_2 s33_3)
noncomputable abbrev b33 : CC := (CC.seq (CC.region [(wB 2 (doBox 39 (tm 0))), (wB 3 (doBox 39 (tm 1))), (wB 4 (doMove (O.c (V.b Bool.false))))]) s33_4)
theorem c33 : compFn Try.prog 33 = ⟨20, b33, [(Rs.tmp (slOf 4))]⟩ := by kernel_rfl
noncomputable abbrev s21_0 : CC := (CC.cond (tm 7) CC.skip (CC.exit 0))
noncomputable abbrev s21_1 : CC := (CC.seq (CC.region [(wB 4 (doMove (tm 3))), (wB 5 (doMove (tm 0))), (wB 6 (doLen (tm 5))), (wB 7 (bin2 fLss (tm 4) (tm 6)))]) s21_0)
noncomputable abbrev s21_2 : CC := (CC.seq (CC.region [(wB 2 (doMove (O.c (V.b Bool.false))))]) CC.ret)
noncomputable abbrev s21_3 : CC := (CC.cond (tm 20) s21_2 CC.skip)
noncomputable abbrev s21_4 : CC := (CC.seq (CC.draws [(uB 10 (doMove (tm 0))), (uB 11 (doMove (tm 3))), (uB 12 (bin2 fSub (tm 11) (oN 1))), (uB 13 (doIndexAddr 4 (tm 10) (tm 12))), (uB 14 (doLoadA 4 (tm 13))), (uB 15 (doMove (tm 0))), (uB 16 (doMove (tm 3))), (uB 17 (doIndexAddr 4 (tm 15) (tm 16))), (uB 18 (doLoadA 4 (tm 17))), (wB 19 (doCall 33 [(tm 14), (tm 18)])), (uB 20 (doNot (tm 19)))]) s21_3)
noncomputable abbrev s21_5 : CC := (CC.block 1 s21_4)
noncomputable abbrev s21_6 : CC := (CC.region [(wB 8 (doMove (tm 3))), (wB 9 (bin2 fAdd (tm 8) (oN 1))), (wB 3 (doMove (tm 9)))])
noncomputable abbrev s21_7 : CC := (CC.seq s21_5 s21_6)
noncomputable abbrev l21_0 : CC := (CC.seq s21_1 s21_7)
noncomputable abbrev s21_8 : CC := (CC.loop l21_0)
noncomputable abbrev s21_9 : CC := (CC.block 0 s21_8)
noncomputable abbrev s21_10 : CC := (CC.seq (CC.region [(wB 3 (doMove (oN 1)))]) s21_9)
noncomputable abbrev s21_11 : CC := (CC.seq (CC.region [(wB 2 (doMove (O.c (V.b Bool.true))))]) CC.ret)
noncomputable abbrev s21_12 : CC := (CC.seq s21_10 s21_11)
noncomputable abbrev b21 : CC := (CC.seq (CC.region [(wB 2 (doMove (O.c (V.b Bool.false))))]) s21_12)
theorem c21 : compFn Try.prog 21 = ⟨21, b21, [(Rs.tmp (slOf 2))]⟩ := by kernel_rfl
noncomputable abbrev s41_0 : CC := (CC.seq (CC.region [(wB 2 (doMove (O.c (V.b Bool.false))))]) CC.ret)
noncomputable abbrev s41_1 : CC := (CC.cond (tm 12) s41_0 CC.skip)
noncomputable abbrev s41_2 : CC := (CC.seq (CC.region [(wB 3 (doFieldAddr 0 (tm 1))), (wB 4 (doLoad (tm 3))), (wB 5 (doLenS (tm 4))), (wB 6 (bin2 fLss (tm 5) (oN 1))), (wB 7 (doMove (tm 6))), (wG 7 false 8 (doFieldAddr 0 (tm 1))), (wG 7 false 9 (doLoad (tm 8))), (wG 7 false 10 (doLenS (tm 9))), (wG 7 false 11 (bin2 fGtr (tm 10) (oN 13))), (wB 12 (doPick (tm 7) (O.c (V.b Bool.true)) (tm 11)))]) s41_1)
noncomputable abbrev s41_3 : CC := (CC.seq (CC.region [(wB 15 (doFieldAddr 2 (tm 1))), (wB 16 (doLoad (tm 15))), (wB 17 (doSCmp eqS (tm 16) (O.c (V.s 0 0)))), (wB 2 (doMove (tm 17)))]) CC.ret)
noncomputable abbrev s41_4 : CC := (CC.cond (tm 14) s41_3 CC.skip)
noncomputable abbrev s41_5 : CC := (CC.seq (CC.region [(wB 13 (doFieldAddr 1 (tm 1))), (wB 14 (doLoad (tm 13)))]) s41_4)
noncomputable abbrev s41_6 : CC := (CC.seq (CC.region [(wB 18 (doFieldAddr 2 (tm 1))), (wB 19 (doLoad (tm 18))), (wB 20 (doLenS (tm 19))), (wB 21 (bin2 fLeq (tm 20) (oN 24))), (wB 2 (doMove (tm 21)))]) CC.ret)
noncomputable abbrev s41_7 : CC := (CC.seq s41_5 s41_6)
noncomputable abbrev s41_8 : CC := (CC.seq s41_2 s41_7)
noncomputable abbrev b41 : CC := (CC.seq (CC.region [(wB 1 (doBox 64 (tm 0))), (wB 2 (doMove (O.c (V.b Bool.false))))]) s41_8)
theorem c41 : compFn Try.prog 41 = ⟨22, b41, [(Rs.tmp (slOf 2))]⟩ := by kernel_rfl
noncomputable abbrev s32_0 : CC := (CC.seq (CC.region [(wB 3 (doFieldAddr 0 (tm 1))), (wB 4 (doLoad (tm 3))), (wB 5 (doLenS (tm 4))), (wB 6 (bin2 fGeq (tm 5) (oN 1))), (wB 7 (doMove (tm 6))), (wG 7 true 8 (doFieldAddr 0 (tm 1))), (wG 7 true 9 (doLoad (tm 8))), (wG 7 true 10 (doLenS (tm 9))), (wG 7 true 11 (bin2 fLeq (tm 10) (oN 13))), (wB 12 (doPick (tm 7) (tm 11) (O.c (V.b Bool.false)))), (wB 13 (doMove (tm 12))), (wG 13 true 14 (doFieldAddr 2 (tm 1))), (wG 13 true 15 (doLoad (tm 14))), (wG 13 true 16 (doLenS (tm 15))), (wG 13 true 17 (bin2 fLeq (tm 16) (oN 24))), (wB 18 (doPick (tm 13) (tm 17) (O.c (V.b Bool.false)))), (wB 19 (doMove (tm 18))), (wG 19 true 20 (doFieldAddr 1 (tm 1))), (wG 19 true 21 (doLoad (tm 20))), (wG 19 true 22 (doNot (tm 21))), (wG 19 true 23 (doMove (tm 22))), (wG 23 false 24 (doFieldAddr 2 (tm 1))), (wG 23 false 25 (doLoad (tm 24))), (wG 23 false 26 (doSCmp eqS (tm 25) (O.c (V.s 0 0)))), (wG 19 true 27 (doPick (tm 23) (O.c (V.b Bool.true)) (tm 26))), (wB 28 (doPick (tm 19) (tm 27) (O.c (V.b Bool.false)))), (wB 2 (doMove (tm 28)))]) CC.ret)
noncomputable abbrev b32 : CC := (CC.seq (CC.region [(wB 1 (doBox 64 (tm 0))), (wB 2 (doMove (O.c (V.b Bool.false))))]) s32_0)
theorem c32 : compFn Try.prog 32 = ⟨29, b32, [(Rs.tmp (slOf 2))]⟩ := by kernel_rfl
noncomputable abbrev s19_0 : CC := (CC.seq (CC.region [(wB 3 (doFieldAddr 1 (tm 1))), (wB 4 (doLoad (tm 3))), (wB 5 (bin2 fGeq (tm 4) (oN 1))), (wB 6 (doMove (tm 5))), (wG 6 true 7 (doFieldAddr 1 (tm 1))), (wG 6 true 8 (doLoad (tm 7))), (wG 6 true 9 (bin2 fLeq (tm 8) (oN 1000000))), (wB 10 (doPick (tm 6) (tm 9) (O.c (V.b Bool.false)))), (wB 11 (doMove (tm 10))), (wG 11 true 12 (doFieldAddr 0 (tm 1))), (wG 11 true 13 (doLoad (tm 12))), (wG 11 true 14 (doFieldAddr 2 (tm 1))), (wG 11 true 15 (doLoad (tm 14))), (wG 11 true 16 (doFieldAddr 3 (tm 1))), (wG 11 true 17 (doLoad (tm 16))), (wG 11 true 18 (doBuild [(V.s 0 0), (V.b Bool.false), (V.s 0 0)] [(Pt.mk 0 1 (tm 13)), (Pt.mk 1 1 (tm 15)), (Pt.mk 2 1 (tm 17))])), (wG 11 true 19 (doCall 32 [(tm 18)])), (wB 20 (doPick (tm 11) (tm 19) (O.c (V.b Bool.false)))), (wB 2 (doMove (tm 20)))]) CC.ret)
noncomputable abbrev b19 : CC := (CC.seq (CC.region [(wB 1 (doBox 39 (tm 0))), (wB 2 (doMove (O.c (V.b Bool.false))))]) s19_0)
theorem c19 : compFn Try.prog 19 = ⟨21, b19, [(Rs.tmp (slOf 2))]⟩ := by kernel_rfl
noncomputable abbrev s31_0 : CC := (CC.seq (CC.region [(wB 5 (doFieldAddr 0 (tm 2))), (wB 6 (doLoad (tm 5))), (wB 7 (doFieldAddr 0 (tm 3))), (wB 8 (doLoad (tm 7))), (wB 9 (doSCmp ltS (tm 6) (tm 8))), (wB 10 (doMove (tm 9))), (wG 10 false 11 (doFieldAddr 0 (tm 2))), (wG 10 false 12 (doLoad (tm 11))), (wG 10 false 13 (doFieldAddr 0 (tm 3))), (wG 10 false 14 (doLoad (tm 13))), (wG 10 false 15 (doSCmp eqS (tm 12) (tm 14))), (wG 10 false 16 (doMove (tm 15))), (wG 16 true 17 (doFieldAddr 1 (tm 2))), (wG 16 true 18 (doLoad (tm 17))), (wG 16 true 19 (doFieldAddr 1 (tm 3))), (wG 16 true 20 (doLoad (tm 19))), (wG 16 true 21 (bin2 fGtr (tm 18) (tm 20))), (wG 10 false 22 (doPick (tm 16) (tm 21) (O.c (V.b Bool.false)))), (wB 23 (doPick (tm 10) (O.c (V.b Bool.true)) (tm 22))), (wB 4 (doMove (tm 23)))]) CC.ret)
noncomputable abbrev b31 : CC := (CC.seq (CC.region [(wB 2 (doBox 39 (tm 0))), (wB 3 (doBox 39 (tm 1))), (wB 4 (doMove (O.c (V.b Bool.false))))]) s31_0)
theorem c31 : compFn Try.prog 31 = ⟨24, b31, [(Rs.tmp (slOf 4))]⟩ := by kernel_rfl
noncomputable abbrev s18_0 : CC := (CC.cond (tm 7) CC.skip (CC.exit 0))
noncomputable abbrev s18_1 : CC := (CC.seq (CC.region [(wB 4 (doMove (tm 3))), (wB 5 (doMove (tm 0))), (wB 6 (doLen (tm 5))), (wB 7 (bin2 fLss (tm 4) (tm 6)))]) s18_0)
noncomputable abbrev s18_2 : CC := (CC.seq (CC.region [(wB 2 (doMove (O.c (V.b Bool.false))))]) CC.ret)
noncomputable abbrev s18_3 : CC := (CC.cond (tm 20) s18_2 CC.skip)
noncomputable abbrev s18_4 : CC := (CC.seq (CC.draws [(uB 10 (doMove (tm 0))), (uB 11 (doMove (tm 3))), (uB 12 (bin2 fSub (tm 11) (oN 1))), (uB 13 (doIndexAddr 4 (tm 10) (tm 12))), (uB 14 (doLoadA 4 (tm 13))), (uB 15 (doMove (tm 0))), (uB 16 (doMove (tm 3))), (uB 17 (doIndexAddr 4 (tm 15) (tm 16))), (uB 18 (doLoadA 4 (tm 17))), (wB 19 (doCall 31 [(tm 14), (tm 18)])), (uB 20 (doNot (tm 19)))]) s18_3)
noncomputable abbrev s18_5 : CC := (CC.block 1 s18_4)
noncomputable abbrev s18_6 : CC := (CC.region [(wB 8 (doMove (tm 3))), (wB 9 (bin2 fAdd (tm 8) (oN 1))), (wB 3 (doMove (tm 9)))])
noncomputable abbrev s18_7 : CC := (CC.seq s18_5 s18_6)
noncomputable abbrev l18_0 : CC := (CC.seq s18_1 s18_7)
noncomputable abbrev s18_8 : CC := (CC.loop l18_0)
noncomputable abbrev s18_9 : CC := (CC.block 0 s18_8)
noncomputable abbrev s18_10 : CC := (CC.seq (CC.region [(wB 3 (doMove (oN 1)))]) s18_9)
noncomputable abbrev s18_11 : CC := (CC.seq (CC.region [(wB 2 (doMove (O.c (V.b Bool.true))))]) CC.ret)
noncomputable abbrev s18_12 : CC := (CC.seq s18_10 s18_11)
noncomputable abbrev b18 : CC := (CC.seq (CC.region [(wB 2 (doMove (O.c (V.b Bool.false))))]) s18_12)
theorem c18 : compFn Try.prog 18 = ⟨21, b18, [(Rs.tmp (slOf 2))]⟩ := by kernel_rfl
end Go.Proofs.Ytnjgoggnhdpnoaa

namespace Go.Proofs.Ytnjgoggnhdpnoaa
open Go Go.Ev
theorem hmix : Try.prog.follows .mixedOrders = true := by kernel_rfl
open Go.Ev in
instance {nt : Nat} {t : F} {h : H} {K : X → F → H → Prop} {l : List CO} : St (Ok Try.prog nt (.draws l) t h K) (DO Try.prog l t h (K .normal)) := ⟨Ok.dw hmix⟩
end Go.Proofs.Ytnjgoggnhdpnoaa

set_option maxRecDepth 100000
set_option maxHeartbeats 8000000
set_option linter.all false
namespace Go.Proofs.Ytnjgoggnhdpnoaa
open Go Go.Ev
theorem isWrite_ok {h : H} {k v : List UInt8} {d : Bool} (hf : B.val h.floor ≤ B.val h.next) : FnOk Try.prog 41 [.a [sv k, .b d, sv v]] h fun y h' => y = .b (isW k d v) ∧ Stay nowhere h h' := by
  refine fn_go c41 (by intro hb; cases hb) (by simp) (by simp) fun Q hQ => ?_
  simp only [slotsF, Nat.reduceAdd]
  repeat' (first
    | refine St.h ?_
    | simp (disch := first | omega | (simp only [lnv]; omega)) only [wlk, ↓get_put', ↓reduceIte, seval]
    | (with_reducible (first | apply cd_split | apply gd_split)) <;> (intro hc; (try simp only [hcn] at hc); (try simp only [hc]); (try simp only [hcl] at hc); try omega))
  refine AL.own (by simp) hf fun h1 s1 n1 o1 => ?_
  repeat' (first
    | refine St.h ?_
    | simp (disch := first | omega | (simp only [lnv]; omega)) only [wlk, ↓get_put', ↓reduceIte, seval, o1.row.l1]
    | (with_reducible (first | apply cd_split | apply gd_split)) <;> (intro hc; (try simp only [hcn] at hc); (try simp only [hc]); (try simp only [hcl] at hc); try omega))
  all_goals (subst hQ; refine ⟨?_, s1⟩; congr 1; symm; first | exact isW_lo (by assumption) | exact isW_hi (by assumption) | exact isW_t (by assumption) (by assumption) (by assumption) | exact isW_f (by assumption) (by assumption) (by assumption))
theorem risWrite_ok {h : H} {k v : List UInt8} {d : Bool} (hf : B.val h.floor ≤ B.val h.next) : FnOk Try.prog 32 [.a [sv k, .b d, sv v]] h fun y h' => y = .b (isW k d v) ∧ Stay nowhere h h' := by
  refine fn_go c32 (by intro hb; cases hb) (by simp) (by simp) fun Q hQ => ?_
  simp only [slotsF, Nat.reduceAdd]
  repeat' (first
    | refine St.h ?_
    | simp (disch := first | omega | (simp only [lnv]; omega)) only [wlk, ↓get_put', ↓reduceIte, seval]
    | (with_reducible (first | apply cd_split | apply gd_split)) <;> (intro hc; (try simp only [hcn] at hc); (try simp only [hc]); (try simp only [hcl] at hc); try omega))
  refine AL.own (by simp) hf fun h1 s1 n1 o1 => ?_
  repeat' (first
    | refine St.h ?_
    | simp (disch := first | omega | (simp only [lnv]; omega)) only [wlk, ↓get_put', ↓reduceIte, seval, o1.row.l1]
    | (with_reducible (first | apply cd_split | apply gd_split)) <;> (intro hc; (try simp only [hcn] at hc); (try simp only [hc]); (try simp only [hcl] at hc); try omega))
  all_goals (subst hQ; refine ⟨?_, s1⟩; congr 1; symm; first | exact isW_lo (by assumption) | exact isW_hi (by assumption) | exact isW_big (by assumption) | exact isW_t (by assumption) (by assumption) (by assumption) | (rw [isW_f (by assumption) (by assumption) (by assumption)]; exact decide_eq_true (by assumption)))
theorem is_ok {h : H} {e : Ent} (hf : B.val h.floor ≤ B.val h.next) : FnOk Try.prog 37 [.a [sv e.key, .i .i64 e.seq, .b e.del, sv e.val]] h fun y h' => y = .b (isE e) ∧ Stay nowhere h h' := by
  refine fn_go c37 (by intro hb; cases hb) (by simp) (by simp) fun Q hQ => ?_
  simp only [slotsF, Nat.reduceAdd]
  repeat' (first
    | refine St.h ?_
    | simp (disch := first | omega | (simp only [lnv]; omega)) only [wlk, ↓get_put', ↓reduceIte, seval]
    | (with_reducible (first | apply cd_split | apply gd_split)) <;> (intro hc; (try simp only [hcn] at hc); (try simp only [hc]); (try simp only [hcl] at hc); try omega))
  refine AL.own (by simp) hf fun h1 s1 n1 o1 => ?_
  repeat' (first
    | refine St.h ?_
    | simp (disch := first | omega | (simp only [lnv]; omega)) only [wlk, ↓get_put', ↓reduceIte, seval, o1.row.l1]
    | (with_reducible (first | apply cd_split | apply gd_split)) <;> (intro hc; (try simp only [hcn] at hc); (try simp only [hc]); (try simp only [hcl] at hc); try omega))
  · refine CL.stay (isWrite_ok (s1.fl hf)) fun h2 s2 => ?_
    repeat' (first
      | refine St.h ?_
      | simp (disch := first | omega | (simp only [lnv]; omega)) only [wlk, ↓get_put', ↓reduceIte, seval, o1.row.l1]
      | (with_reducible (first | apply cd_split | apply gd_split)) <;> (intro hc; (try simp only [hcn] at hc); (try simp only [hc]); (try simp only [hcl] at hc); try omega))
    subst hQ
    exact ⟨by rw [isE_in (by assumption) (by assumption)], s1.trans s2⟩
  · subst hQ
    exact ⟨by rw [isE_hi (by assumption)], s1⟩
  · subst hQ
    exact ⟨by rw [isE_lo (by assumption)], s1⟩
theorem ris_ok {h : H} {e : Ent} (hf : B.val h.floor ≤ B.val h.next) : FnOk Try.prog 19 [.a [sv e.key, .i .i64 e.seq, .b e.del, sv e.val]] h fun y h' => y = .b (isE e) ∧ Stay nowhere h h' := by
  refine fn_go c19 (by intro hb; cases hb) (by simp) (by simp) fun Q hQ => ?_
  simp only [slotsF, Nat.reduceAdd]
  repeat' (first
    | refine St.h ?_
    | simp (disch := first | omega | (simp only [lnv]; omega)) only [wlk, ↓get_put', ↓reduceIte, seval]
    | (with_reducible (first | apply cd_split | apply gd_split)) <;> (intro hc; (try simp only [hcn] at hc); (try simp only [hc]); (try simp only [hcl] at hc); try omega))
  refine AL.own (by simp) hf fun h1 s1 n1 o1 => ?_
  repeat' (first
    | refine St.h ?_
    | simp (disch := first | omega | (simp only [lnv]; omega)) only [wlk, ↓get_put', ↓reduceIte, seval, o1.row.l1]
    | (with_reducible (first | apply cd_split | apply gd_split)) <;> (intro hc; (try simp only [hcn] at hc); (try simp only [hc]); (try simp only [hcl] at hc); try omega))
  · refine CL.stay (risWrite_ok (s1.fl hf)) fun h2 s2 => ?_
    repeat' (first
      | refine St.h ?_
      | simp (disch := first | omega | (simp only [lnv]; omega)) only [wlk, ↓get_put', ↓reduceIte, seval, o1.row.l1]
      | (with_reducible (first | apply cd_split | apply gd_split)) <;> (intro hc; (try simp only [hcn] at hc); (try simp only [hc]); (try simp only [hcl] at hc); try omega))
    subst hQ
    exact ⟨by rw [isE_in (by assumption) (by assumption)], s1.trans s2⟩
  · subst hQ
    exact ⟨by rw [isE_hi (by assumption)], s1⟩
  · subst hQ
    exact ⟨by rw [isE_lo (by assumption)], s1⟩
theorem less_ok {h : H} {a b : Ent} (hf : B.val h.floor ≤ B.val h.next) : FnOk Try.prog 33 [.a [sv a.key, .i .i64 a.seq, .b a.del, sv a.val], .a [sv b.key, .i .i64 b.seq, .b b.del, sv b.val]] h fun y h' => y = .b (lessE a b) ∧ Stay nowhere h h' := by
  refine fn_go c33 (by intro hb; cases hb) (by simp) (by simp) fun Q hQ => ?_
  simp only [slotsF, Nat.reduceAdd]
  repeat' (first
    | refine St.h ?_
    | simp (disch := first | omega | (simp only [lnv]; omega)) only [wlk, ↓get_put', ↓reduceIte, seval]
    | (with_reducible (first | apply cd_split | apply gd_split)) <;> (intro hc; (try simp only [hcn] at hc); (try simp only [hc]); (try simp only [hcl] at hc); try omega))
  refine AL.own (by simp) hf fun h1 s1 n1 o1 => ?_
  repeat' (first
    | refine St.h ?_
    | simp (disch := first | omega | (simp only [lnv]; omega)) only [wlk, ↓get_put', ↓reduceIte, seval]
    | (with_reducible (first | apply cd_split | apply gd_split)) <;> (intro hc; (try simp only [hcn] at hc); (try simp only [hc]); (try simp only [hcl] at hc); try omega))
  refine AL.own (by simp) (s1.fl hf) fun h2 s2 n2 o2 => ?_
  have o1' := o1.stay s2 fun h => h
  by_cases hk : a.key = b.key
  · repeat' (first
      | refine St.h ?_
      | simp (disch := first | omega | (simp only [lnv]; omega)) only [wlk, ↓get_put', ↓reduceIte, seval, o1'.row.l1, o2.row.l1, hk]
      | (with_reducible (first | apply cd_split | apply gd_split)) <;> (intro hc; (try simp only [hcn] at hc); (try simp only [hc]); (try simp only [hcl] at hc); try omega))
    subst hQ
    exact ⟨by rw [lessE_eq hk], s1.trans s2⟩
  · repeat' (first
      | refine St.h ?_
      | simp (disch := first | omega | (simp only [lnv]; omega)) only [wlk, ↓get_put', ↓reduceIte, seval, o1'.row.l1, o2.row.l1, hk]
      | (with_reducible (first | apply cd_split | apply gd_split)) <;> (intro hc; (try simp only [hcn] at hc); (try simp only [hc]); (try simp only [hcl] at hc); try omega))
    subst hQ
    exact ⟨by rw [lessE_ne hk], s1.trans s2⟩
theorem rless_ok {h : H} {a b : Ent} (hf : B.val h.floor ≤ B.val h.next) : FnOk Try.prog 31 [.a [sv a.key, .i .i64 a.seq, .b a.del, sv a.val], .a [sv b.key, .i .i64 b.seq, .b b.del, sv b.val]] h fun y h' => y = .b (lessE a b) ∧ Stay nowhere h h' := by
  refine fn_go c31 (by intro hb; cases hb) (by simp) (by simp) fun Q hQ => ?_
  simp only [slotsF, Nat.reduceAdd]
  repeat' (first
    | refine St.h ?_
    | simp (disch := first | omega | (simp only [lnv]; omega)) only [wlk, ↓get_put', ↓reduceIte, seval]
    | (with_reducible (first | apply cd_split | apply gd_split)) <;> (intro hc; (try simp only [hcn] at hc); (try simp only [hc]); (try simp only [hcl] at hc); try omega))
  refine AL.own (by simp) hf fun h1 s1 n1 o1 => ?_
  repeat' (first
    | refine St.h ?_
    | simp (disch := first | omega | (simp only [lnv]; omega)) only [wlk, ↓get_put', ↓reduceIte, seval]
    | (with_reducible (first | apply cd_split | apply gd_split)) <;> (intro hc; (try simp only [hcn] at hc); (try simp only [hc]); (try simp only [hcl] at hc); try omega))
  refine AL.own (by simp) (s1.fl hf) fun h2 s2 n2 o2 => ?_
  have o1' := o1.stay s2 fun h => h
  cases hb : Op.bytesLess a.key b.key with
  | true =>
    repeat' (first
      | refine St.h ?_
      | simp (disch := first | omega | (simp only [lnv]; omega)) only [wlk, ↓get_put', ↓reduceIte, seval, o1'.row.l1, o2.row.l1, hb]
      | (with_reducible (first | apply cd_split | apply gd_split)) <;> (intro hc; (try simp only [hcn] at hc); (try simp only [hc]); (try simp only [hcl] at hc); try omega))
    subst hQ
    exact ⟨by rw [lessE_lt hb], s1.trans s2⟩
  | false =>
    by_cases hk : a.key = b.key
    · rw [hk] at hb
      repeat' (first
        | refine St.h ?_
        | simp (disch := first | omega | (simp only [lnv]; omega)) only [wlk, ↓get_put', ↓reduceIte, seval, o1'.row.l1, o2.row.l1, hk, hb]
        | (with_reducible (first | apply cd_split | apply gd_split)) <;> (intro hc; (try simp only [hcn] at hc); (try simp only [hc]); (try simp only [hcl] at hc); try omega))
      subst hQ
      exact ⟨by rw [lessE_eq hk], s1.trans s2⟩
    · repeat' (first
        | refine St.h ?_
        | simp (disch := first | omega | (simp only [lnv]; omega)) only [wlk, ↓get_put', ↓reduceIte, seval, o1'.row.l1, o2.row.l1, hk, hb]
        | (with_reducible (first | apply cd_split | apply gd_split)) <;> (intro hc; (try simp only [hcn] at hc); (try simp only [hc]); (try simp only [hcl] at hc); try omega))
      subst hQ
      exact ⟨by rw [lessE_ne hk, hb], s1.trans s2⟩
theorem sorted_ok {h : H} {v : V} {L : List Ent} (hL : Es h v L) (hl : L.length ≤ 9223372036854775807) (hf : B.val h.floor ≤ B.val h.next) : FnOk Try.prog 21 [v] h fun y h' => y = .b (sortedE L) ∧ Stay nowhere h h' := by
  refine fn_go c21 (by intro hb; cases hb) (by simp) (by simp) fun Q hQ => ?_
  simp only [slotsF, Nat.reduceAdd]
  repeat' (first
    | refine St.h ?_
    | simp (disch := first | omega | (simp only [lnv]; omega)) only [wlk, ↓get_put', ↓reduceIte, seval]
    | (with_reducible (first | apply cd_split | apply gd_split)) <;> (intro hc; (try simp only [hcn] at hc); (try simp only [hc]); (try simp only [hcl] at hc); try omega))
  refine Ok.lp (fun m t g => ∃ j : Nat, m = L.length - j ∧ Stay nowhere h g ∧ srtU L j = true ∧ j ≤ L.length - 1 ∧ get 0 t = v ∧ get 3 t = .i .i64 ((j : Int) + 1)) L.length ?_ ?_
  · simp (disch := first | omega | (simp only [lnv]; omega)) only [wlk, ↓get_put', ↓reduceIte, seval]
    exact ⟨0, by omega, Stay.refl _ _, rfl, by omega, trivial, rfl⟩
  rintro I hI m t g ⟨j, rfl, st, hs, hj, f0, f3⟩
  have hL' := hL.grow st
  have ej : (j : Int) + 1 - 1 = (j : Int) := by omega
  have ek : ((j : Int) + 1).toNat = j + 1 := by omega
  repeat' (first
    | refine St.h ?_
    | simp (disch := first | omega | (simp only [lnv]; omega)) only [wlk, ↓get_put', ↓reduceIte, seval, f0, f3, hL.ln, hL.ix, hL'.la, ej, ek, Int.toNat_natCast]
    | (with_reducible (first | apply cd_split | apply gd_split)) <;> (intro hc; (try simp only [hcn] at hc); (try simp only [hc]); (try simp only [hcl] at hc); try omega))
  · refine CL.stay (less_ok (st.fl hf)) fun h1 s1 => ?_
    cases hb : lessE (L.getD j default) (L.getD (j + 1) default) with
    | false =>
      repeat' (first
        | refine St.h ?_
        | simp (disch := first | omega | (simp only [lnv]; omega)) only [wlk, ↓get_put', ↓reduceIte, seval, f0, f3]
        | (with_reducible (first | apply cd_split | apply gd_split)) <;> (intro hc; (try simp only [hcn] at hc); (try simp only [hc]); (try simp only [hcl] at hc); try omega))
      subst hQ
      exact ⟨by rw [sorted_no (by omega) hb], st.trans s1⟩
    | true =>
      repeat' (first
        | refine St.h ?_
        | simp (disch := first | omega | (simp only [lnv]; omega)) only [wlk, ↓get_put', ↓reduceIte, seval, f0, f3]
        | (with_reducible (first | apply cd_split | apply gd_split)) <;> (intro hc; (try simp only [hcn] at hc); (try simp only [hc]); (try simp only [hcl] at hc); try omega))
      refine lp_next hI (L.length - (j + 1)) (by omega) ⟨j + 1, rfl, st.trans s1, by rw [srtU_succ, hs, hb]; rfl, by omega, ?_, ?_⟩
      · simp (disch := first | omega | (simp only [lnv]; omega)) only [wlk, ↓get_put', ↓reduceIte, seval, f0]
      · simp (disch := first | omega | (simp only [lnv]; omega)) only [wlk, ↓get_put', ↓reduceIte, seval]; rfl
  · subst hQ
    obtain rfl : j = L.length - 1 := by omega
    exact ⟨by rw [show sortedE L = true from hs], st⟩
theorem rsorted_ok {h : H} {v : V} {L : List Ent} (hL : Es h v L) (hl : L.length ≤ 9223372036854775807) (hf : B.val h.floor ≤ B.val h.next) : FnOk Try.prog 18 [v] h fun y h' => y = .b (sortedE L) ∧ Stay nowhere h h' := by
  refine fn_go c18 (by intro hb; cases hb) (by simp) (by simp) fun Q hQ => ?_
  simp only [slotsF, Nat.reduceAdd]
  repeat' (first
    | refine St.h ?_
    | simp (disch := first | omega | (simp only [lnv]; omega)) only [wlk, ↓get_put', ↓reduceIte, seval]
    | (with_reducible (first | apply cd_split | apply gd_split)) <;> (intro hc; (try simp only [hcn] at hc); (try simp only [hc]); (try simp only [hcl] at hc); try omega))
  refine Ok.lp (fun m t g => ∃ j : Nat, m = L.length - j ∧ Stay nowhere h g ∧ srtU L j = true ∧ j ≤ L.length - 1 ∧ get 0 t = v ∧ get 3 t = .i .i64 ((j : Int) + 1)) L.length ?_ ?_
  · simp (disch := first | omega | (simp only [lnv]; omega)) only [wlk, ↓get_put', ↓reduceIte, seval]
    exact ⟨0, by omega, Stay.refl _ _, rfl, by omega, trivial, rfl⟩
  rintro I hI m t g ⟨j, rfl, st, hs, hj, f0, f3⟩
  have hL' := hL.grow st
  have ej : (j : Int) + 1 - 1 = (j : Int) := by omega
  have ek : ((j : Int) + 1).toNat = j + 1 := by omega
  repeat' (first
    | refine St.h ?_
    | simp (disch := first | omega | (simp only [lnv]; omega)) only [wlk, ↓get_put', ↓reduceIte, seval, f0, f3, hL.ln, hL.ix, hL'.la, ej, ek, Int.toNat_natCast]
    | (with_reducible (first | apply cd_split | apply gd_split)) <;> (intro hc; (try simp only [hcn] at hc); (try simp only [hc]); (try simp only [hcl] at hc); try omega))
  · refine CL.stay (rless_ok (st.fl hf)) fun h1 s1 => ?_
    cases hb : lessE (L.getD j default) (L.getD (j + 1) default) with
    | false =>
      repeat' (first
        | refine St.h ?_
        | simp (disch := first | omega | (simp only [lnv]; omega)) only [wlk, ↓get_put', ↓reduceIte, seval, f0, f3]
        | (with_reducible (first | apply cd_split | apply gd_split)) <;> (intro hc; (try simp only [hcn] at hc); (try simp only [hc]); (try simp only [hcl] at hc); try omega))
      subst hQ
      exact ⟨by rw [sorted_no (by omega) hb], st.trans s1⟩
    | true =>
      repeat' (first
        | refine St.h ?_
        | simp (disch := first | omega | (simp only [lnv]; omega)) only [wlk, ↓get_put', ↓reduceIte, seval, f0, f3]
        | (with_reducible (first | apply cd_split | apply gd_split)) <;> (intro hc; (try simp only [hcn] at hc); (try simp only [hc]); (try simp only [hcl] at hc); try omega))
      refine lp_next hI (L.length - (j + 1)) (by omega) ⟨j + 1, rfl, st.trans s1, by rw [srtU_succ, hs, hb]; rfl, by omega, ?_, ?_⟩
      · simp (disch := first | omega | (simp only [lnv]; omega)) only [wlk, ↓get_put', ↓reduceIte, seval, f0]
      · simp (disch := first | omega | (simp only [lnv]; omega)) only [wlk, ↓get_put', ↓reduceIte, seval]; rfl
  · subst hQ
    obtain rfl : j = L.length - 1 := by omega
    exact ⟨by rw [show sortedE L = true from hs], st⟩
end Go.Proofs.Ytnjgoggnhdpnoaa

set_option maxRecDepth 100000
set_option maxHeartbeats 8000000
set_option linter.all false
namespace Go.Proofs.Ytnjgoggnhdpnoaa
open Go Go.Ev
theorem own_lt' {h : H} {id : B} {xs : List V} (o : Ev.Own h id xs) : B.val id < B.val h.next := by obtain ⟨_, _, _, _, _, _, h6, _⟩ := o; exact h6
theorem ent_ext {a b : Ent} (h : a.key = b.key ∧ a.seq = b.seq ∧ a.del = b.del ∧ a.val = b.val) : a = b := by
  obtain ⟨k1, q1, d1, v1⟩ := a
  obtain ⟨k2, q2, d2, v2⟩ := b
  obtain ⟨rfl, rfl, rfl, rfl⟩ := h
  rfl
theorem rsame_ok {h : H} {v w : V} {L M : List Ent} (hL : Es h v L) (hM : Es h w M) (hl : L.length ≤ 9223372036854775807) : FnOk Try.prog 13 [v, w] h fun y h' => y = .b (decide (L = M)) ∧ h' = h := by
  refine fn_go c13 (by intro hb; cases hb) (by simp) (by simp) fun Q hQ => ?_
  simp only [slotsF, Nat.reduceAdd]
  by_cases hlen : L.length = M.length
  case neg =>
    have hd : ((L.length : Int) = (M.length : Int)) = False := eq_false (by omega)
    repeat' (first
      | refine St.h ?_
      | simp (disch := first | omega | (simp only [lnv]; omega)) only [wlk, ↓get_put', ↓reduceIte, seval, hL.ln, hM.ln, hd]
      | (with_reducible (first | apply cd_split | apply gd_split)) <;> (intro hc; (try simp only [hcn] at hc); (try simp only [hc]); (try simp only [hcl] at hc); try omega))
    subst hQ
    exact ⟨by rw [decide_eq_false (fun e => hlen (by rw [e]))], rfl⟩
  have hd : ((L.length : Int) = (M.length : Int)) = True := eq_true (by omega)
  repeat' (first
    | refine St.h ?_
    | simp (disch := first | omega | (simp only [lnv]; omega)) only [wlk, ↓get_put', ↓reduceIte, seval, hL.ln, hM.ln, hd]
    | (with_reducible (first | apply cd_split | apply gd_split)) <;> (intro hc; (try simp only [hcn] at hc); (try simp only [hc]); (try simp only [hcl] at hc); try omega))
  refine Ok.lp (fun m t g => ∃ j : Nat, m = L.length - j ∧ h = g ∧ (∀ i, i < j → L.getD i default = M.getD i default) ∧ j ≤ L.length ∧ get 0 t = v ∧ get 1 t = w ∧ get 5 t = .i .i64 (j : Int)) L.length ?_ ?_
  · simp (disch := first | omega | (simp only [lnv]; omega)) only [wlk, ↓get_put', ↓reduceIte, seval]
    refine ⟨0, by omega, trivial, fun i hi => by omega, by omega, ?_⟩
    repeat' (first | trivial | rfl | refine And.intro ?_ ?_)
  rintro I hI m t g ⟨j, rfl, rfl, he, hj, f0, f1, f5⟩
  by_cases hje : L.getD j default = M.getD j default
  · have hd2 : (M.getD j default).key = (M.getD j default).key ∧ (M.getD j default).seq = (M.getD j default).seq ∧ (M.getD j default).del = (M.getD j default).del ∧ (M.getD j default).val = (M.getD j default).val := ⟨rfl, rfl, rfl, rfl⟩
    repeat' (first
      | refine St.h ?_
      | simp (disch := first | omega | (simp only [lnv]; omega)) only [wlk, ↓get_put', ↓reduceIte, seval, f0, f1, f5, hL.ln, hL.ix, hM.ix, hL.la, hM.la, hje, Int.toNat_natCast]
      | (with_reducible (first | apply cd_split | apply gd_split)) <;> (intro hc; (try simp only [hcn] at hc); (try simp only [hc]); (try simp only [hcl] at hc); try omega))
    · refine lp_next hI (L.length - (j + 1)) (by omega) ⟨j + 1, rfl, rfl, fun i hi => ?_, by omega, ?_, ?_, ?_⟩
      · by_cases e : i = j
        · subst e; exact hje
        · exact he i (by omega)
      · simp (disch := first | omega | (simp only [lnv]; omega)) only [wlk, ↓get_put', ↓reduceIte, seval, f0]
      · simp (disch := first | omega | (simp only [lnv]; omega)) only [wlk, ↓get_put', ↓reduceIte, seval, f1]
      · simp (disch := first | omega | (simp only [lnv]; omega)) only [wlk, ↓get_put', ↓reduceIte, seval]; rfl
    · obtain rfl : j = L.length := by omega
      subst hQ
      refine ⟨?_, rfl⟩
      rw [decide_eq_true]
      refine List.ext_getElem hlen fun i h1 h2 => ?_
      have := he i h1
      simpa [List.getD, h1, h2] using this
  · have hd2 : decide ((L.getD j default).key = (M.getD j default).key ∧ (L.getD j default).seq = (M.getD j default).seq ∧ (L.getD j default).del = (M.getD j default).del ∧ (L.getD j default).val = (M.getD j default).val) = false := decide_eq_false fun e => hje (ent_ext e)
    repeat' (first
      | refine St.h ?_
      | simp (disch := first | omega | (simp only [lnv]; omega)) only [wlk, ↓get_put', ↓reduceIte, seval, f0, f1, f5, hL.ln, hL.ix, hM.ix, hL.la, hM.la, hd2, Int.toNat_natCast]
      | (with_reducible (first | apply cd_split | apply gd_split)) <;> (intro hc; (try simp only [hcn] at hc); (try simp only [hc]); (try simp only [hcl] at hc); try omega))
    · subst hQ
      exact ⟨by rw [decide_eq_false (fun e => hje (by rw [e]))], rfl⟩
    · obtain rfl : j = L.length := by omega
      exact absurd (by simp [List.getD, ← hlen]) hje
theorem drop_ent {L : List Ent} {i : Nat} (hi : i < L.length) : L.drop i = L.getD i default :: L.drop (i + 1) := by
  rw [List.drop_eq_getElem_cons hi]; simp [List.getD, hi]
theorem take_ent {L : List Ent} {i : Nat} (hi : i < L.length) : L.take (i + 1) = L.take i ++ [L.getD i default] := by
  rw [List.take_succ]; simp [List.getD, hi]
theorem fp_sw {n : Nat} {x : V} (w : SwN n x) {P : Program} {off : Nat} {ps : List Pt} {t : F} {z : List V} {e : Option (Nat × Nat)} {h : H} {N : Nx} : FP P off 1 x ps t z e h N = if off + 1 ≤ z.length then FL P ps t (z.take off ++ (x :: z.drop (off + 1))) e h N else FPJ P off 1 x ps t z e h N := by
  rcases w with rfl | ⟨_, _, _, _, _, _, rfl, _⟩
  · exact fp_l0
  · exact fp_l
theorem one_sw {n : Nat} {x : V} (w : SwN n x) : allOne [x] = true := by
  rcases w with rfl | ⟨_, _, _, _, _, _, rfl, _⟩ <;> rfl
/-- a block, as it lies -/
structure Bk where
  v : V
  l : List Ent
instance : Inhabited Bk := ⟨⟨.l0, []⟩⟩
def bkC (b : Bk) : List V := [b.v]
theorem bkC_len (b : Bk) : (bkC b).length = 1 := rfl
/-- blocks, as they lie -/
structure Bls (h : H) (v : V) (bs : List (List Ent)) (ks : List Bk) : Prop where
  ss : Ss 1 bkC h v ks
  eq : ks.map (·.l) = bs
  es : ∀ k ∈ ks, Es h k.v k.l
section
variable {P : Program} {h h' g' : H} {N : Nx} {v : V} {bs : List (List Ent)} {ks : List Bk} {i : Nat}
theorem Bls.len (a : Bls h v bs ks) : ks.length = bs.length := by rw [← a.eq, List.length_map]
theorem Bls.ln (a : Bls h v bs ks) : H1 P gLen v g' N = N.go P (.i .i64 (bs.length : Int)) g' := by rw [← a.len]; exact a.ss.ln
theorem Bls.ix (a : Bls h v bs ks) (hi : i < bs.length) : IX P 1 v i g' N = N.go P (.p (lid v) (lg v) (loff v + i) (lfin v)) g' := by
  have := a.ss.ix (P := P) (g' := g') (N := N) (i := i) (by rw [a.len]; exact hi)
  rwa [Nat.mul_one] at this
theorem Bls.ld (a : Bls h v bs ks) (hi : i < bs.length) : L1 P (lid v) (lg v) (loff v + i) (lfin v) h N = N.go P (ks.getD i default).v h := by
  have := a.ss.ld (P := P) (N := N) (i := i) (d := 0) bkC_len (by rw [a.len]; exact hi) (by omega)
  rwa [Nat.mul_one] at this
theorem Bls.grow (a : Bls h v bs ks) (s : Stay nowhere h h') : Bls h' v bs ks := ⟨a.ss.grow s, a.eq, fun k hk => (a.es k hk).grow s⟩
theorem Bls.at (a : Bls h v bs ks) (hi : i < bs.length) : Es h (ks.getD i default).v (bs.getD i []) := by
  have hk : i < ks.length := by rw [a.len]; exact hi
  have h1 := a.es (ks.getD i default) (by rw [List.getD_eq_getElem?_getD, List.getElem?_eq_getElem hk]; simp)
  have h2 : bs.getD i [] = (ks.getD i default).l := by rw [← a.eq]; simp [List.getD, List.getElem?_eq_getElem hk]
  rw [h2]; exact h1
end
end Go.Proofs.Ytnjgoggnhdpnoaa

set_option maxRecDepth 100000
set_option maxHeartbeats 8000000
set_option linter.all false
namespace Go.Proofs.Ytnjgoggnhdpnoaa
open Go Go.Ev
theorem any_take {q : Ent → Bool} {L : List Ent} {i : Nat} (hi : i < L.length) : (L.take (i + 1)).any q = ((L.take i).any q || q (L.getD i default)) := by
  rw [take_ent hi, List.any_append]; simp
theorem any_f {q : Ent → Bool} {L : List Ent} (h : L.any q = false) : ∀ a ∈ L, q a = false := fun a ha => by
  rw [List.any_eq_false] at h
  simpa using h a ha
theorem any_t {q : Ent → Bool} {L : List Ent} (h : L.any q = true) : ∃ a ∈ L, q a = true := List.any_eq_true.1 h
/-- the first i entries, with that one among them if its place is ahead -/
def insU (x : Ent) (L : List Ent) (i : Nat) : List Ent := if (L.take i).any (lessE x) then insE x (L.take i) else L.take i
theorem insU_len {x : Ent} {L : List Ent} {i : Nat} : (insU x L i).length ≤ L.length + 1 := by
  have : (L.take i).length ≤ L.length := by rw [List.length_take]; omega
  unfold insU; split
  · rw [insE_len]; omega
  · omega
theorem insU_zero (x : Ent) (L : List Ent) : insU x L 0 = [] := by unfold insU; simp
/-- its place is there -/
theorem insU_new {x : Ent} {L : List Ent} {i : Nat} (hi : i < L.length) (h1 : (L.take i).any (lessE x) = false) (h2 : lessE x (L.getD i default) = true) : insU x L (i + 1) = insU x L i ++ [x] ++ [L.getD i default] := by
  have e1 : insU x L i = L.take i := by unfold insU; rw [h1]; rfl
  have e2 : (L.take (i + 1)).any (lessE x) = true := by rw [any_take hi, h1, h2]; rfl
  rw [e1]
  unfold insU
  rw [e2, if_pos rfl, take_ent hi, insE_none (any_f h1), List.append_assoc]
  congr 1
  unfold insE
  rw [if_pos h2]; rfl
theorem insU_old {x : Ent} {L : List Ent} {i : Nat} (hi : i < L.length) (h1 : (L.take i).any (lessE x) = true) : insU x L (i + 1) = insU x L i ++ [L.getD i default] := by
  have e1 : insU x L i = insE x (L.take i) := by unfold insU; rw [h1]; rfl
  have e2 : (L.take (i + 1)).any (lessE x) = true := by rw [any_take hi, h1]; rfl
  rw [e1]
  unfold insU
  rw [e2, if_pos rfl, take_ent hi, insE_some (any_t h1)]
theorem insU_not {x : Ent} {L : List Ent} {i : Nat} (hi : i < L.length) (h1 : (L.take i).any (lessE x) = false) (h2 : lessE x (L.getD i default) = false) : insU x L (i + 1) = insU x L i ++ [L.getD i default] := by
  have e1 : insU x L i = L.take i := by unfold insU; rw [h1]; rfl
  have e2 : (L.take (i + 1)).any (lessE x) = false := by rw [any_take hi, h1, h2]; rfl
  rw [e1]
  unfold insU
  rw [e2, if_neg (by simp), take_ent hi]
theorem insU_end {x : Ent} {L : List Ent} (h1 : L.any (lessE x) = true) : insU x L L.length = insE x L := by unfold insU; rw [List.take_length, h1]; rfl
theorem insU_add {x : Ent} {L : List Ent} (h1 : L.any (lessE x) = false) : insU x L L.length ++ [x] = insE x L := by
  unfold insU
  rw [List.take_length, h1, if_neg (by simp)]
  have := insE_none (any_f h1) []
  rw [List.append_nil] at this
  rw [this]; rfl
theorem swn_bufE {h : H} {el n : Nat} {v : V} {xs : List V} (b : Buf h el n v xs) : SwN n v := by
  rcases b with ⟨rfl, _⟩ | ⟨id, g, m, blk, rfl, h1, h2, _⟩
  · exact .inl rfl
  · exact .inr ⟨_, _, _, _, _, _, rfl, by show xs.length = 0 + m * n; omega⟩
end Go.Proofs.Ytnjgoggnhdpnoaa

set_option maxRecDepth 100000
set_option maxHeartbeats 8000000
set_option linter.all false
namespace Go.Proofs.Ytnjgoggnhdpnoaa
open Go Go.Ev
theorem rinsert_ok {h : H} {v : V} {L : List Ent} {x : Ent} (hL : Es h v L) (hw : SwN 4 v) (hl : L.length ≤ 10000) (hf : B.val h.floor ≤ B.val h.next) : FnOk Try.prog 23 [v, .a (entC x)] h fun y h' =>
    Es h' y (addE L x) ∧ SwN 4 y ∧ (∀ q, isOf y q → isOf v q ∨ B.val h.next ≤ B.val q) ∧ Stay nowhere h h' := by
  obtain ⟨xk, xq, xd, xv⟩ := x
  unfold entC
  refine fn_go c23 (by intro hb; cases hb) (by simp) (by simp) fun Q hQ => ?_
  simp only [slotsF, Nat.reduceAdd]
  repeat' (first
    | refine St.h ?_
    | simp (disch := first | omega | (simp only [lnv]; omega)) only [wlk, ↓get_put', ↓reduceIte, seval]
    | (with_reducible (first | apply cd_split | apply gd_split)) <;> (intro hc; (try simp only [hcn] at hc); (try simp only [hc]); (try simp only [hcl] at hc); try omega))
  refine AL.own (by simp) hf fun h1 s1 n1 o1 => ?_
  have hf1 := s1.fl hf
  have hL1 := hL.grow s1
  repeat' (first
    | refine St.h ?_
    | simp (disch := first | omega | (simp only [lnv]; omega)) only [wlk, ↓get_put', ↓reduceIte, seval]
    | (with_reducible (first | apply cd_split | apply gd_split)) <;> (intro hc; (try simp only [hcn] at hc); (try simp only [hc]); (try simp only [hcl] at hc); try omega))
  refine Ok.lp (fun m t g => ∃ (j : Nat) (u : V), m = L.length - j ∧ j ≤ L.length ∧ get 0 t = v ∧ get 3 t = .p h.next 0 0 4 ∧ get 5 t = u ∧ get 6 t = .b ((L.take j).any (lessE ⟨xk, xq, xd, xv⟩)) ∧ get 7 t = .i .i64 (j : Int) ∧ Stay nowhere h1 g ∧ Ev.Own g h.next [sv xk, .i .i64 xq, .b xd, sv xv] ∧ Buf g 39 4 u ((insU ⟨xk, xq, xd, xv⟩ L j).flatMap entC) ∧ (∀ q, isOf u q → B.val h1.next ≤ B.val q) ∧ (∀ i, i < j → ¬ ((L.getD i default).key = xk ∧ (L.getD i default).seq = xq))) L.length ?_ ?_
  · simp (disch := first | omega | (simp only [lnv]; omega)) only [wlk, ↓get_put', ↓reduceIte, seval]
    refine ⟨0, .l0, by omega, by omega, ?_⟩
    refine ⟨?_, ?_, ?_, ?_, ?_, Stay.refl _ _, o1, by rw [insU_zero]; exact Buf.nil _ _ _, ?_, fun i hi => by omega⟩
    rotate_right
    · rintro i ⟨_, _, _, _, _, e⟩; cases e
    all_goals first | trivial | rfl
  rintro I hI m t g ⟨j, u, rfl, hj, f0, f3, f5, f6, f7, st, og, bf, own, hno⟩
  have hfg := st.fl hf1
  have hLg := hL1.grow st
  have hug : ¬ isOf u h.next := fun hq => by have := own _ hq; have := own_lt' o1; omega
  have hfm := fm_len entC_len (insU ⟨xk, xq, xd, xv⟩ L j)
  have hil := insU_len (x := ⟨xk, xq, xd, xv⟩) (L := L) (i := j)
  by_cases hjl : j < L.length
  case neg =>
    obtain rfl : j = L.length := by omega
    rw [List.take_length] at f6
    have hh : hasE L ⟨xk, xq, xd, xv⟩ = false := hasE_no hno
    rw [addE_new hh] at hQ
    cases hany : L.any (lessE ⟨xk, xq, xd, xv⟩) with
    | true =>
      rw [hany] at f6
      rw [insU_end hany] at bf
      repeat' (first
        | refine St.h ?_
        | simp (disch := first | omega | (simp only [lnv]; omega)) only [wlk, ↓get_put', ↓reduceIte, seval, f0, f3, f5, f6, f7, hL.ln]
        | (with_reducible (first | apply cd_split | apply gd_split)) <;> (intro hc; (try simp only [hcn] at hc); (try simp only [hc]); (try simp only [hcl] at hc); try omega))
      subst hQ
      exact ⟨Ss.buf bf rfl entC_len (by omega), swn_bufE bf, fun q hq => .inr (Nat.le_trans s1.next (own q hq)), s1.trans st⟩
    | false =>
      rw [hany] at f6
      repeat' (first
        | refine St.h ?_
        | simp (disch := first | omega | (simp only [lnv]; omega)) only [wlk, ↓get_put', ↓reduceIte, seval, f0, f3, f5, f6, f7, hL.ln, og.row.ln]
        | (with_reducible (first | apply cd_split | apply gd_split)) <;> (intro hc; (try simp only [hcn] at hc); (try simp only [hc]); (try simp only [hcl] at hc); try omega))
      refine AL.own (by simp) hfg fun g4 t4 _ o4 => ?_
      have hfg4 := t4.fl hfg
      have bf4 := bf.grow t4
      repeat' (first
        | refine St.h ?_
        | simp (disch := first | omega | (simp only [lnv]; omega)) only [wlk, ↓get_put', ↓reduceIte, seval, f0, f3, f5, f6, f7]
        | (with_reducible (first | apply cd_split | apply gd_split)) <;> (intro hc; (try simp only [hcn] at hc); (try simp only [hc]); (try simp only [hcl] at hc); try omega))
      refine AP.buf (vs := entC ⟨xk, xq, xd, xv⟩) (cnt := 1) bf4 (new_row o4.row rfl (Nat.le_refl _) (by omega) (by show 4 ≤ 4; omega)) hfg4 (by omega) rfl rfl (by rw [hfm, entC_len]; omega) fun u' g5 b5 t5 ho tp => ?_
      repeat' (first
        | refine St.h ?_
        | simp (disch := first | omega | (simp only [lnv]; omega)) only [wlk, ↓get_put', ↓reduceIte, seval, f0, f3, f5, f6, f7]
        | (with_reducible (first | apply cd_split | apply gd_split)) <;> (intro hc; (try simp only [hcn] at hc); (try simp only [hc]); (try simp only [hcl] at hc); try omega))
      subst hQ
      have s5 : Stay nowhere h1 g5 := (st.trans t4).past' t5 fun q hq => own q hq
      refine ⟨?_, swn_bufE b5, fun q hq => .inr ?_, s1.trans s5⟩
      rotate_right
      · rcases ho q hq with h1 | h1
        · exact Nat.le_trans s1.next (own q h1)
        · have := s1.next; have := st.next; have := t4.next; omega
      rw [← insU_add hany]
      exact Ss.buf (by rw [List.flatMap_append]; simpa using b5) rfl entC_len (by omega)
  by_cases heq : (L.getD j default).key = xk ∧ (L.getD j default).seq = xq
  case pos =>
    have hh : hasE L ⟨xk, xq, xd, xv⟩ = true := hasE_at hjl heq
    rw [addE_has hh] at hQ
    have d1 : decide ((L.getD j default).key = xk) = true := decide_eq_true heq.1
    have d2 : ((L.getD j default).seq = xq) = True := eq_true heq.2
    repeat' (first
      | refine St.h ?_
      | simp (disch := first | omega | (simp only [lnv]; omega)) only [wlk, ↓get_put', ↓reduceIte, seval, f0, f3, f5, f6, f7, hL.ln, hL.ix, hLg.l0, hLg.l1, og.row.l1, d1, d2, Int.toNat_natCast]
      | (with_reducible (first | apply cd_split | apply gd_split)) <;> (intro hc; (try simp only [hcn] at hc); (try simp only [hc]); (try simp only [hcl] at hc); try omega))
    subst hQ
    exact ⟨hLg, hw, fun q hq => .inl hq, s1.trans st⟩
  have hd : (decide ((L.getD j default).key = xk) = false ∧ (2 = 3) = False) ∨ (decide ((L.getD j default).key = xk) = true ∧ ((L.getD j default).seq = xq) = False) := by
    by_cases hk : (L.getD j default).key = xk
    · exact .inr ⟨decide_eq_true hk, eq_false fun e => heq ⟨hk, e⟩⟩
    · exact .inl ⟨decide_eq_false hk, eq_false (by decide)⟩
  have hno' : ∀ i, i < j + 1 → ¬ ((L.getD i default).key = xk ∧ (L.getD i default).seq = xq) := fun i hi => by
    by_cases e : i = j
    · rw [e]; exact heq
    · exact hno i (by omega)
  have hx : entC (L.getD j default) = [sv (L.getD j default).key, .i .i64 (L.getD j default).seq, .b (L.getD j default).del, sv (L.getD j default).val] := rfl
  cases hany : (L.take j).any (lessE ⟨xk, xq, xd, xv⟩) with
  | true =>
    rw [hany] at f6
    have hnx := insU_old hjl hany
    rcases hd with ⟨d1, d2⟩ | ⟨d1, d2⟩
    all_goals
      repeat' (first
        | refine St.h ?_
        | simp (disch := first | omega | (simp only [lnv]; omega)) only [wlk, ↓get_put', ↓reduceIte, seval, f0, f3, f5, f6, f7, hL.ln, hL.ix, hLg.l0, hLg.l1, hLg.la, og.row.l1, d1, d2, Int.toNat_natCast]
        | (with_reducible (first | apply cd_split | apply gd_split)) <;> (intro hc; (try simp only [hcn] at hc); (try simp only [hc]); (try simp only [hcl] at hc); try omega))
      refine AL.own (by simp) hfg fun g4 t4 _ o4 => ?_
      have hfg4 := t4.fl hfg
      have bf4 := bf.grow t4
      repeat' (first
        | refine St.h ?_
        | simp (disch := first | omega | (simp only [lnv]; omega)) only [wlk, ↓get_put', ↓reduceIte, seval, f0, f3, f5, f6, f7]
        | (with_reducible (first | apply cd_split | apply gd_split)) <;> (intro hc; (try simp only [hcn] at hc); (try simp only [hc]); (try simp only [hcl] at hc); try omega))
      refine AP.buf (vs := entC (L.getD j default)) (cnt := 1) bf4 (new_row o4.row rfl (Nat.le_refl _) (by omega) (by show 4 ≤ 4; omega)) hfg4 (by omega) rfl rfl (by rw [hfm, entC_len]; omega) fun u' g5 b5 t5 ho tp => ?_
      have s5 : Stay nowhere h1 g5 := (st.trans t4).past' t5 fun q hq => own q hq
      have og5 := (og.stay t4 fun h => h).stay t5 hug
      repeat' (first
        | refine St.h ?_
        | simp (disch := first | omega | (simp only [lnv]; omega)) only [wlk, ↓get_put', ↓reduceIte, seval, f0, f3, f5, f6, f7]
        | (with_reducible (first | apply cd_split | apply gd_split)) <;> (intro hc; (try simp only [hcn] at hc); (try simp only [hc]); (try simp only [hcl] at hc); try omega))
      refine lp_next hI (L.length - (j + 1)) (by omega) ⟨j + 1, u', rfl, by omega, by simp (disch := first | omega | (simp only [lnv]; omega)) only [wlk, ↓get_put', ↓reduceIte, seval, f0], by simp (disch := first | omega | (simp only [lnv]; omega)) only [wlk, ↓get_put', ↓reduceIte, seval, f3], by simp (disch := first | omega | (simp only [lnv]; omega)) only [wlk, ↓get_put', ↓reduceIte, seval], by simp (disch := first | omega | (simp only [lnv]; omega)) only [wlk, ↓get_put', ↓reduceIte, seval, f6]; rw [any_take hjl, hany]; rfl, by simp (disch := first | omega | (simp only [lnv]; omega)) only [wlk, ↓get_put', ↓reduceIte, seval, f7]; rfl, s5, og5, by rw [hnx, List.flatMap_append]; simpa using b5, fun q hq => ?_, hno'⟩
      rcases ho q hq with h1 | h1
      · exact own q h1
      · have := st.next; have := t4.next; omega
  | false =>
  rw [hany] at f6
  cases hls : lessE ⟨xk, xq, xd, xv⟩ (L.getD j default) with
  | false =>
    have hnx := insU_not hjl hany hls
    rcases hd with ⟨d1, d2⟩ | ⟨d1, d2⟩
    all_goals
      repeat' (first
        | refine St.h ?_
        | simp (disch := first | omega | (simp only [lnv]; omega)) only [wlk, ↓get_put', ↓reduceIte, seval, f0, f3, f5, f6, f7, hL.ln, hL.ix, hLg.l0, hLg.l1, hLg.la, og.row.l1, og.row.ln, d1, d2, Int.toNat_natCast]
        | (with_reducible (first | apply cd_split | apply gd_split)) <;> (intro hc; (try simp only [hcn] at hc); (try simp only [hc]); (try simp only [hcl] at hc); try omega))
      refine CL.stay (rless_ok (a := ⟨xk, xq, xd, xv⟩) (b := L.getD j default) hfg) fun g3 t3 => ?_
      rw [hls]
      have hfg3 := t3.fl hfg
      have bf3 := bf.grow t3
      have og3 := og.stay t3 fun h => h
      have hLg3 := hLg.grow t3
      repeat' (first
        | refine St.h ?_
        | simp (disch := first | omega | (simp only [lnv]; omega)) only [wlk, ↓get_put', ↓reduceIte, seval, f0, f3, f5, f6, f7, hL.ix, hLg3.la, Int.toNat_natCast]
        | (with_reducible (first | apply cd_split | apply gd_split)) <;> (intro hc; (try simp only [hcn] at hc); (try simp only [hc]); (try simp only [hcl] at hc); try omega))
      refine AL.own (by simp) hfg3 fun g4 t4 _ o4 => ?_
      have hfg4 := t4.fl hfg3
      have bf4 := bf3.grow t4
      repeat' (first
        | refine St.h ?_
        | simp (disch := first | omega | (simp only [lnv]; omega)) only [wlk, ↓get_put', ↓reduceIte, seval, f0, f3, f5, f6, f7]
        | (with_reducible (first | apply cd_split | apply gd_split)) <;> (intro hc; (try simp only [hcn] at hc); (try simp only [hc]); (try simp only [hcl] at hc); try omega))
      refine AP.buf (vs := entC (L.getD j default)) (cnt := 1) bf4 (new_row o4.row rfl (Nat.le_refl _) (by omega) (by show 4 ≤ 4; omega)) hfg4 (by omega) rfl rfl (by rw [hfm, entC_len]; omega) fun u' g5 b5 t5 ho tp => ?_
      have s5 : Stay nowhere h1 g5 := ((st.trans t3).trans t4).past' t5 fun q hq => own q hq
      have og5 := (og3.stay t4 fun h => h).stay t5 hug
      repeat' (first
        | refine St.h ?_
        | simp (disch := first | omega | (simp only [lnv]; omega)) only [wlk, ↓get_put', ↓reduceIte, seval, f0, f3, f5, f6, f7]
        | (with_reducible (first | apply cd_split | apply gd_split)) <;> (intro hc; (try simp only [hcn] at hc); (try simp only [hc]); (try simp only [hcl] at hc); try omega))
      refine lp_next hI (L.length - (j + 1)) (by omega) ⟨j + 1, u', rfl, by omega, by simp (disch := first | omega | (simp only [lnv]; omega)) only [wlk, ↓get_put', ↓reduceIte, seval, f0], by simp (disch := first | omega | (simp only [lnv]; omega)) only [wlk, ↓get_put', ↓reduceIte, seval, f3], by simp (disch := first | omega | (simp only [lnv]; omega)) only [wlk, ↓get_put', ↓reduceIte, seval], by simp (disch := first | omega | (simp only [lnv]; omega)) only [wlk, ↓get_put', ↓reduceIte, seval, f6]; rw [any_take hjl, hany, hls]; rfl, by simp (disch := first | omega | (simp only [lnv]; omega)) only [wlk, ↓get_put', ↓reduceIte, seval, f7]; rfl, s5, og5, by rw [hnx, List.flatMap_append]; simpa using b5, fun q hq => ?_, hno'⟩
      rcases ho q hq with h1 | h1
      · exact own q h1
      · have := st.next; have := t3.next; have := t4.next; omega
  | true =>
    have hnx := insU_new hjl hany hls
    rcases hd with ⟨d1, d2⟩ | ⟨d1, d2⟩
    all_goals
      repeat' (first
        | refine St.h ?_
        | simp (disch := first | omega | (simp only [lnv]; omega)) only [wlk, ↓get_put', ↓reduceIte, seval, f0, f3, f5, f6, f7, hL.ln, hL.ix, hLg.l0, hLg.l1, hLg.la, og.row.l1, og.row.ln, d1, d2, Int.toNat_natCast]
        | (with_reducible (first | apply cd_split | apply gd_split)) <;> (intro hc; (try simp only [hcn] at hc); (try simp only [hc]); (try simp only [hcl] at hc); try omega))
      refine CL.stay (rless_ok (a := ⟨xk, xq, xd, xv⟩) (b := L.getD j default) hfg) fun g3 t3 => ?_
      rw [hls]
      have hfg3 := t3.fl hfg
      have bf3 := bf.grow t3
      have og3 := og.stay t3 fun h => h
      have hLg3 := hLg.grow t3
      repeat' (first
        | refine St.h ?_
        | simp (disch := first | omega | (simp only [lnv]; omega)) only [wlk, ↓get_put', ↓reduceIte, seval, f0, f3, f5, f6, f7, og3.row.ln]
        | (with_reducible (first | apply cd_split | apply gd_split)) <;> (intro hc; (try simp only [hcn] at hc); (try simp only [hc]); (try simp only [hcl] at hc); try omega))
      refine AL.own (by simp) hfg3 fun g4 t4 _ o4 => ?_
      have hfg4 := t4.fl hfg3
      have bf4 := bf3.grow t4
      repeat' (first
        | refine St.h ?_
        | simp (disch := first | omega | (simp only [lnv]; omega)) only [wlk, ↓get_put', ↓reduceIte, seval, f0, f3, f5, f6, f7]
        | (with_reducible (first | apply cd_split | apply gd_split)) <;> (intro hc; (try simp only [hcn] at hc); (try simp only [hc]); (try simp only [hcl] at hc); try omega))
      refine AP.buf (vs := entC ⟨xk, xq, xd, xv⟩) (cnt := 1) bf4 (new_row o4.row rfl (Nat.le_refl _) (by omega) (by show 4 ≤ 4; omega)) hfg4 (by omega) rfl rfl (by rw [hfm, entC_len]; omega) fun u' g5 b5 t5 ho tp => ?_
      have s4 := (st.trans t3).trans t4
      have s5 : Stay nowhere h1 g5 := s4.past' t5 fun q hq => own q hq
      have own' : ∀ q, isOf u' q → B.val h1.next ≤ B.val q := fun q hq => by
        rcases ho q hq with h1 | h1
        · exact own q h1
        · have := s4.next; omega
      have hug' : ¬ isOf u' h.next := fun hq => by have := own' _ hq; have := own_lt' o1; omega
      have og5 := (og3.stay t4 fun h => h).stay t5 hug
      have hfg5 := s5.fl hf1
      have hLg5 := hL1.grow s5
      have hfm5 : (((insU ⟨xk, xq, xd, xv⟩ L j).flatMap entC) ++ entC ⟨xk, xq, xd, xv⟩).length = ((insU ⟨xk, xq, xd, xv⟩ L j).length + 1) * 4 := by rw [List.length_append, hfm, entC_len]; omega
      repeat' (first
        | refine St.h ?_
        | simp (disch := first | omega | (simp only [lnv]; omega)) only [wlk, ↓get_put', ↓reduceIte, seval, f0, f3, f5, f6, f7, hL.ix, hLg5.la, Int.toNat_natCast]
        | (with_reducible (first | apply cd_split | apply gd_split)) <;> (intro hc; (try simp only [hcn] at hc); (try simp only [hc]); (try simp only [hcl] at hc); try omega))
      refine AL.own (by simp) hfg5 fun g6 t6 _ o6 => ?_
      have hfg6 := t6.fl hfg5
      have b6 := b5.grow t6
      repeat' (first
        | refine St.h ?_
        | simp (disch := first | omega | (simp only [lnv]; omega)) only [wlk, ↓get_put', ↓reduceIte, seval, f0, f3, f5, f6, f7]
        | (with_reducible (first | apply cd_split | apply gd_split)) <;> (intro hc; (try simp only [hcn] at hc); (try simp only [hc]); (try simp only [hcl] at hc); try omega))
      refine AP.buf (vs := entC (L.getD j default)) (cnt := 1) b6 (new_row o6.row rfl (Nat.le_refl _) (by omega) (by show 4 ≤ 4; omega)) hfg6 (by omega) rfl rfl (by rw [hfm5, entC_len]; omega) fun u2 g7 b7 t7 ho7 tp7 => ?_
      have s7 : Stay nowhere h1 g7 := (s5.trans t6).past' t7 fun q hq => own' q hq
      have og7 := (og5.stay t6 fun h => h).stay t7 hug'
      repeat' (first
        | refine St.h ?_
        | simp (disch := first | omega | (simp only [lnv]; omega)) only [wlk, ↓get_put', ↓reduceIte, seval, f0, f3, f5, f6, f7]
        | (with_reducible (first | apply cd_split | apply gd_split)) <;> (intro hc; (try simp only [hcn] at hc); (try simp only [hc]); (try simp only [hcl] at hc); try omega))
      refine lp_next hI (L.length - (j + 1)) (by omega) ⟨j + 1, u2, rfl, by omega, by simp (disch := first | omega | (simp only [lnv]; omega)) only [wlk, ↓get_put', ↓reduceIte, seval, f0], by simp (disch := first | omega | (simp only [lnv]; omega)) only [wlk, ↓get_put', ↓reduceIte, seval, f3], by simp (disch := first | omega | (simp only [lnv]; omega)) only [wlk, ↓get_put', ↓reduceIte, seval], by simp (disch := first | omega | (simp only [lnv]; omega)) only [wlk, ↓get_put', ↓reduceIte, seval, f6]; rw [any_take hjl, hany, hls]; rfl, by simp (disch := first | omega | (simp only [lnv]; omega)) only [wlk, ↓get_put', ↓reduceIte, seval, f7]; rfl, s7, og7, by rw [hnx, List.flatMap_append, List.flatMap_append]; simpa using b7, fun q hq => ?_, hno'⟩
      rcases ho7 q hq with h1 | h1
      · exact own' q h1
      · have := s5.next; have := t6.next; omega
end Go.Proofs.Ytnjgoggnhdpnoaa

set_option maxRecDepth 100000
set_option maxHeartbeats 8000000
set_option linter.all false
namespace Go.Proofs.Ytnjgoggnhdpnoaa
open Go Go.Ev
theorem flat_take {R : List (List Ent)} {i : Nat} (hi : i < R.length) : (R.take (i + 1)).flatten = (R.take i).flatten ++ R.getD i [] := by
  rw [List.take_succ, List.flatten_append]; congr 1; simp [List.getD, hi]
theorem flat_len_at : ∀ {R : List (List Ent)} {i : Nat}, i < R.length → (R.take i).flatten.length + (R.getD i []).length ≤ R.flatten.length
  | [], i, h => by simp at h
  | a :: R, 0, h => by simp
  | a :: R, i + 1, h => by
    have := flat_len_at (R := R) (i := i) (by simpa using h)
    rw [List.take_succ_cons, List.flatten_cons, List.flatten_cons, List.length_append, List.length_append]
    simp only [List.getD_cons_succ]; omega
theorem rrows_ok {h : H} {v : V} {R : List (List Ent)} {ks : List Bk} (hB : Bls h v R ks) (hl : R.length ≤ 1000) (hfl : R.flatten.length ≤ 5000) (hf : B.val h.floor ≤ B.val h.next) : FnOk Try.prog 12 [v] h fun y h' =>
    ∃ w, y = .tu [w, .b (rowsE R).2] ∧ Es h' w (rowsE R).1 ∧ SwN 4 w ∧ Stay nowhere h h' := by
  refine fn_go c12 (by intro hb; cases hb) (by simp) (by simp) fun Q hQ => ?_
  simp only [slotsF, Nat.reduceAdd]
  repeat' (first
    | refine St.h ?_
    | simp (disch := first | omega | (simp only [lnv]; omega)) only [wlk, ↓get_put', ↓reduceIte, seval]
    | (with_reducible (first | apply cd_split | apply gd_split)) <;> (intro hc; (try simp only [hcn] at hc); (try simp only [hc]); (try simp only [hcl] at hc); try omega))
  refine Ok.lp (fun m t g => ∃ (i : Nat) (u : V), m = R.length - i ∧ i ≤ R.length ∧ get 0 t = v ∧ get 4 t = u ∧ get 5 t = .i .i64 (i : Int) ∧ Stay nowhere h g ∧ Es g u (addsE [] (R.take i).flatten) ∧ SwN 4 u ∧ (∀ q, q < i → sortedE (R.getD q []) = true)) R.length ?_ ?_
  · simp (disch := first | omega | (simp only [lnv]; omega)) only [wlk, ↓get_put', ↓reduceIte, seval]
    refine ⟨0, .l0, by omega, by omega, ?_⟩
    refine ⟨?_, ?_, ?_, Stay.refl _ _, Ss.nil, .inl rfl, fun q hq => by omega⟩
    all_goals first | trivial | rfl
  rintro I hI m t g ⟨i, u, rfl, hi, f0, f4, f5, st, hu, hw, hso⟩
  have hfg := st.fl hf
  have hBg := hB.grow st
  by_cases hil : i < R.length
  case neg =>
    obtain rfl : i = R.length := by omega
    rw [List.take_length] at hu
    have hall : R.all sortedE = true := by
      rw [List.all_eq_true]
      intro a ha
      obtain ⟨q, hq, rfl⟩ := List.getElem_of_mem ha
      have := hso q hq
      rwa [List.getD_eq_getElem?_getD, List.getElem?_eq_getElem hq] at this
    repeat' (first
      | refine St.h ?_
      | simp (disch := first | omega | (simp only [lnv]; omega)) only [wlk, ↓get_put', ↓reduceIte, seval, f0, f4, f5, hB.ln]
      | (with_reducible (first | apply cd_split | apply gd_split)) <;> (intro hc; (try simp only [hcn] at hc); (try simp only [hc]); (try simp only [hcl] at hc); try omega))
    subst hQ
    exact ⟨u, by rw [rowsE_ok hall], by rw [rowsE_ok hall]; exact hu, hw, st⟩
  have hes := hBg.at hil
  have hla := flat_len_at hil
  have hft := flat_take hil
  have hal := addsE_len (L := []) (M := (R.take i).flatten)
  have hrl : (R.getD i []).length ≤ 5000 := by omega
  repeat' (first
    | refine St.h ?_
    | simp (disch := first | omega | (simp only [lnv]; omega)) only [wlk, ↓get_put', ↓reduceIte, seval, f0, f4, f5, hB.ln, hB.ix hil, hBg.ld hil, Int.toNat_natCast]
    | (with_reducible (first | apply cd_split | apply gd_split)) <;> (intro hc; (try simp only [hcn] at hc); (try simp only [hc]); (try simp only [hcl] at hc); try omega))
  refine CL.stay (rsorted_ok hes (by omega) hfg) fun g1 t1 => ?_
  have hfg1 := t1.fl hfg
  have st1 := st.trans t1
  have hB1 := hB.grow st1
  cases hs : sortedE (R.getD i []) with
  | false =>
    have hall : R.all sortedE = false := by
      rw [List.all_eq_false]
      refine ⟨R.getD i [], ?_, by rw [hs]; simp⟩
      rw [List.getD_eq_getElem?_getD, List.getElem?_eq_getElem hil]; simp
    repeat' (first
      | refine St.h ?_
      | simp (disch := first | omega | (simp only [lnv]; omega)) only [wlk, ↓get_put', ↓reduceIte, seval]
      | (with_reducible (first | apply cd_split | apply gd_split)) <;> (intro hc; (try simp only [hcn] at hc); (try simp only [hc]); (try simp only [hcl] at hc); try omega))
    subst hQ
    exact ⟨.l0, by rw [rowsE_bad hall], by rw [rowsE_bad hall]; exact Ss.nil, .inl rfl, st1⟩
  | true =>
  repeat' (first
    | refine St.h ?_
    | simp (disch := first | omega | (simp only [lnv]; omega)) only [wlk, ↓get_put', ↓reduceIte, seval, f0, f4, f5]
    | (with_reducible (first | apply cd_split | apply gd_split)) <;> (intro hc; (try simp only [hcn] at hc); (try simp only [hc]); (try simp only [hcl] at hc); try omega))
  refine Ok.lp (fun m t g => ∃ (k : Nat) (u : V), m = (R.getD i []).length - k ∧ k ≤ (R.getD i []).length ∧ get 0 t = v ∧ get 4 t = u ∧ get 5 t = .i .i64 (i : Int) ∧ get 6 t = .i .i64 (k : Int) ∧ Stay nowhere h g ∧ Es g u (addsE [] ((R.take i).flatten ++ (R.getD i []).take k)) ∧ SwN 4 u) (R.getD i []).length ?_ ?_
  · simp (disch := first | omega | (simp only [lnv]; omega)) only [wlk, ↓get_put', ↓reduceIte, seval, f0, f4, f5]
    refine ⟨0, u, by omega, by omega, ?_⟩
    refine ⟨?_, ?_, ?_, ?_, st1, by rw [List.take_zero, List.append_nil]; exact hu.grow t1, hw⟩
    all_goals first | trivial | rfl
  rintro I2 hI2 m2 t2 g2 ⟨k, u2, rfl, hk, e0, e4, e5, e6, st2, hu2, hw2⟩
  have hfg2 := st2.fl hf
  have hB2 := hB.grow st2
  have hes2 := hB2.at hil
  by_cases hkl : k < (R.getD i []).length
  case neg =>
    obtain rfl : k = (R.getD i []).length := by omega
    rw [List.take_length, ← hft] at hu2
    repeat' (first
      | refine St.h ?_
      | simp (disch := first | omega | (simp only [lnv]; omega)) only [wlk, ↓get_put', ↓reduceIte, seval, e0, e4, e5, e6, hB.ix hil, hB2.ld hil, hes2.ln, Int.toNat_natCast]
      | (with_reducible (first | apply cd_split | apply gd_split)) <;> (intro hc; (try simp only [hcn] at hc); (try simp only [hc]); (try simp only [hcl] at hc); try omega))
    refine lp_next hI (R.length - (i + 1)) (by omega) ⟨i + 1, u2, rfl, by omega, by simp (disch := first | omega | (simp only [lnv]; omega)) only [wlk, ↓get_put', ↓reduceIte, seval, e0], by simp (disch := first | omega | (simp only [lnv]; omega)) only [wlk, ↓get_put', ↓reduceIte, seval, e4], by simp (disch := first | omega | (simp only [lnv]; omega)) only [wlk, ↓get_put', ↓reduceIte, seval, e5]; rfl, st2, hu2, hw2, fun q hq => ?_⟩
    by_cases e : q = i
    · rw [e]; exact hs
    · exact hso q (by omega)
  have hal2 := addsE_len (L := []) (M := (R.take i).flatten ++ (R.getD i []).take k)
  simp only [List.length_append, List.length_take, List.length_nil] at hal2
  have hsn : addsE [] ((R.take i).flatten ++ (R.getD i []).take (k + 1)) = addE (addsE [] ((R.take i).flatten ++ (R.getD i []).take k)) ((R.getD i []).getD k default) := by
    rw [take_ent hkl, ← List.append_assoc, addsE_snoc]
  repeat' (first
    | refine St.h ?_
    | simp (disch := first | omega | (simp only [lnv]; omega)) only [wlk, ↓get_put', ↓reduceIte, seval, e0, e4, e5, e6, hB.ix hil, hB2.ld hil, hes2.ln, hes2.ix, hes2.la, Int.toNat_natCast]
    | (with_reducible (first | apply cd_split | apply gd_split)) <;> (intro hc; (try simp only [hcn] at hc); (try simp only [hc]); (try simp only [hcl] at hc); try omega))
  refine CL.mk (rinsert_ok (x := (R.getD i []).getD k default) hu2 hw2 (by omega) hfg2) ?_
  rintro u3 g3 ⟨hu3, hw3, _, t3⟩
  rw [← hsn] at hu3
  repeat' (first
    | refine St.h ?_
    | simp (disch := first | omega | (simp only [lnv]; omega)) only [wlk, ↓get_put', ↓reduceIte, seval, e0, e4, e5, e6]
    | (with_reducible (first | apply cd_split | apply gd_split)) <;> (intro hc; (try simp only [hcn] at hc); (try simp only [hc]); (try simp only [hcl] at hc); try omega))
  refine lp_next hI2 ((R.getD i []).length - (k + 1)) (by omega) ⟨k + 1, u3, rfl, by omega, by simp (disch := first | omega | (simp only [lnv]; omega)) only [wlk, ↓get_put', ↓reduceIte, seval, e0], by simp (disch := first | omega | (simp only [lnv]; omega)) only [wlk, ↓get_put', ↓reduceIte, seval], by simp (disch := first | omega | (simp only [lnv]; omega)) only [wlk, ↓get_put', ↓reduceIte, seval, e5], by simp (disch := first | omega | (simp only [lnv]; omega)) only [wlk, ↓get_put', ↓reduceIte, seval, e6]; rfl, st2.trans t3, hu3, hw3⟩
/-- what is seen, of the first n -/
def visU (L : List Ent) (s : Int) (n : Nat) : List Ent := (L.take n).filter (visP L s)
theorem filter_takeE {L : List Ent} {q : Ent → Bool} {i : Nat} (hi : i < L.length) : (L.take (i + 1)).filter q = (L.take i).filter q ++ (if q (L.getD i default) then [L.getD i default] else []) := by
  rw [take_ent hi, List.filter_append, List.filter_cons, List.filter_nil]
theorem rvis_ok {h : H} {v : V} {L : List Ent} {s : Int} (hL : Es h v L) (hl : L.length ≤ 5000) (_ : -9223372036854775808 ≤ s) (_ : s ≤ 9223372036854775807) (hf : B.val h.floor ≤ B.val h.next) : FnOk Try.prog 15 [v, .i .i64 s] h fun y h' =>
    Es h' y (visE L s) ∧ SwN 4 y ∧ Stay nowhere h h' := by
  refine fn_go c15 (by intro hb; cases hb) (by simp) (by simp) fun Q hQ => ?_
  simp only [slotsF, Nat.reduceAdd]
  repeat' (first
    | refine St.h ?_
    | simp (disch := first | omega | (simp only [lnv]; omega)) only [wlk, ↓get_put', ↓reduceIte, seval]
    | (with_reducible (first | apply cd_split | apply gd_split)) <;> (intro hc; (try simp only [hcn] at hc); (try simp only [hc]); (try simp only [hcl] at hc); try omega))
  refine Ok.lp (fun m t g => ∃ (i : Nat) (u : V), m = L.length - i ∧ i ≤ L.length ∧ get 0 t = v ∧ get 1 t = .i .i64 s ∧ get 5 t = u ∧ get 6 t = .i .i64 (i : Int) ∧ Stay nowhere h g ∧ Buf g 39 4 u ((visU L s i).flatMap entC) ∧ (∀ q, isOf u q → B.val h.next ≤ B.val q) ∧ (0 < i → sortedE L = true)) L.length ?_ ?_
  · simp (disch := first | omega | (simp only [lnv]; omega)) only [wlk, ↓get_put', ↓reduceIte, seval]
    refine ⟨0, .l0, by omega, by omega, ?_⟩
    refine ⟨?_, ?_, ?_, ?_, Stay.refl _ _, by unfold visU; rw [List.take_zero]; exact Buf.nil _ _ _, ?_, fun h => by omega⟩
    rotate_right
    · rintro i ⟨_, _, _, _, _, e⟩; cases e
    all_goals first | trivial | rfl
  rintro I hI m t g ⟨i, u, rfl, hi, f0, f1, f5, f6, st, bf, own, hpos⟩
  have hfg := st.fl hf
  have hLg := hL.grow st
  have hfm := fm_len entC_len (visU L s i)
  have hvl : (visU L s i).length ≤ L.length := by
    have h1 := List.length_filter_le (visP L s) (L.take i)
    have h2 : (L.take i).length ≤ L.length := by rw [List.length_take]; omega
    unfold visU; omega
  by_cases hil : i < L.length
  case neg =>
    obtain rfl : i = L.length := by omega
    repeat' (first
      | refine St.h ?_
      | simp (disch := first | omega | (simp only [lnv]; omega)) only [wlk, ↓get_put', ↓reduceIte, seval, f0, f1, f5, f6, hL.ln]
      | (with_reducible (first | apply cd_split | apply gd_split)) <;> (intro hc; (try simp only [hcn] at hc); (try simp only [hc]); (try simp only [hcl] at hc); try omega))
    subst hQ
    by_cases h0 : L = []
    · subst h0
      exact ⟨Ss.buf (L := []) (by simpa [visU] using bf) rfl entC_len (by omega) |> fun h => by unfold visE; exact h, swn_bufE bf, st⟩
    · have hso := hpos (by cases L with | nil => exact absurd rfl h0 | cons => simp)
      refine ⟨?_, swn_bufE bf, st⟩
      rw [visE_ok hso]
      have : visU L s L.length = L.filter (visP L s) := by unfold visU; rw [List.take_length]
      rw [← this]; exact Ss.buf bf rfl entC_len (by omega)
  repeat' (first
    | refine St.h ?_
    | simp (disch := first | omega | (simp only [lnv]; omega)) only [wlk, ↓get_put', ↓reduceIte, seval, f0, f1, f5, f6, hL.ln]
    | (with_reducible (first | apply cd_split | apply gd_split)) <;> (intro hc; (try simp only [hcn] at hc); (try simp only [hc]); (try simp only [hcl] at hc); try omega))
  refine CL.stay (rsorted_ok hLg (by omega) hfg) fun g1 t1 => ?_
  have hfg1 := t1.fl hfg
  have st1 := st.trans t1
  have hL1 := hL.grow st1
  have bf1 := bf.grow t1
  cases hs : sortedE L with
  | false =>
    have hi0 : i = 0 := Classical.byContradiction fun h => by rw [hpos (by omega)] at hs; cases hs
    subst hi0
    repeat' (first
      | refine St.h ?_
      | simp (disch := first | omega | (simp only [lnv]; omega)) only [wlk, ↓get_put', ↓reduceIte, seval, f0, f1, f5, f6]
      | (with_reducible (first | apply cd_split | apply gd_split)) <;> (intro hc; (try simp only [hcn] at hc); (try simp only [hc]); (try simp only [hcl] at hc); try omega))
    subst hQ
    refine ⟨?_, swn_bufE bf1, st1⟩
    rw [visE_un hs]
    have : visU L s 0 = [] := by unfold visU; simp
    rw [this] at bf1
    exact Ss.buf bf1 rfl entC_len (by omega)
  | true =>
  have hft := filter_takeE (q := visP L s) hil
  have hvs : visU L s (i + 1) = visU L s i ++ (if visP L s (L.getD i default) then [L.getD i default] else []) := hft
  have hnw := newer_at hs hil (s := s)
  have hcs : ∀ P : Prop, (P = ((2 = 3) = False)) → (((L.getD i default).seq ≤ s) = False ∧ P ∧ P ∧ P ∧ P ∧ visP L s (L.getD i default) = false) ∨
      (((L.getD i default).seq ≤ s) = True ∧ ((i : Int) = 0) = False ∧ decide ((L.getD (i - 1) default).key = (L.getD i default).key) = true ∧ (s < (L.getD (i - 1) default).seq) = False ∧ P ∧ visP L s (L.getD i default) = false) ∨
      (((L.getD i default).seq ≤ s) = True ∧ ((i : Int) = 0) = True ∧ P ∧ P ∧ (L.getD i default).del = true ∧ visP L s (L.getD i default) = false) ∨
      (((L.getD i default).seq ≤ s) = True ∧ ((i : Int) = 0) = True ∧ P ∧ P ∧ (L.getD i default).del = false ∧ visP L s (L.getD i default) = true) ∨
      (((L.getD i default).seq ≤ s) = True ∧ ((i : Int) = 0) = False ∧ decide ((L.getD (i - 1) default).key = (L.getD i default).key) = false ∧ P ∧ (L.getD i default).del = true ∧ visP L s (L.getD i default) = false) ∨
      (((L.getD i default).seq ≤ s) = True ∧ ((i : Int) = 0) = False ∧ decide ((L.getD (i - 1) default).key = (L.getD i default).key) = false ∧ P ∧ (L.getD i default).del = false ∧ visP L s (L.getD i default) = true) ∨
      (((L.getD i default).seq ≤ s) = True ∧ ((i : Int) = 0) = False ∧ decide ((L.getD (i - 1) default).key = (L.getD i default).key) = true ∧ (s < (L.getD (i - 1) default).seq) = True ∧ (L.getD i default).del = true ∧ visP L s (L.getD i default) = false) ∨
      (((L.getD i default).seq ≤ s) = True ∧ ((i : Int) = 0) = False ∧ decide ((L.getD (i - 1) default).key = (L.getD i default).key) = true ∧ (s < (L.getD (i - 1) default).seq) = True ∧ (L.getD i default).del = false ∧ visP L s (L.getD i default) = true) := by
    intro P hP
    have hP : P := by rw [hP]; exact eq_false (by decide)
    by_cases hA : (L.getD i default).seq ≤ s
    case neg => exact .inl ⟨eq_false hA, hP, hP, hP, hP, by unfold visP; rw [decide_eq_false hA]; rfl⟩
    by_cases hB : i = 0
    · have hn : newer L (L.getD i default) s = false := by
        cases hh : newer L (L.getD i default) s with
        | false => rfl
        | true => have := (hnw.1 hh).1; omega
      cases hE : (L.getD i default).del with
      | true => exact .inr (.inr (.inl ⟨eq_true hA, eq_true (by omega), hP, hP, rfl, by unfold visP; rw [hE]; simp⟩))
      | false => exact .inr (.inr (.inr (.inl ⟨eq_true hA, eq_true (by omega), hP, hP, rfl, by unfold visP; rw [hE, hn, decide_eq_true hA]; rfl⟩)))
    · by_cases hC : (L.getD (i - 1) default).key = (L.getD i default).key
      · by_cases hD : s < (L.getD (i - 1) default).seq
        · have hn : newer L (L.getD i default) s = false := by
            cases hh : newer L (L.getD i default) s with
            | false => rfl
            | true => have := (hnw.1 hh).2.2; omega
          cases hE : (L.getD i default).del with
          | true => exact .inr (.inr (.inr (.inr (.inr (.inr (.inl ⟨eq_true hA, eq_false (by omega), decide_eq_true hC, eq_true hD, rfl, by unfold visP; rw [hE]; simp⟩))))))
          | false => exact .inr (.inr (.inr (.inr (.inr (.inr (.inr ⟨eq_true hA, eq_false (by omega), decide_eq_true hC, eq_true hD, rfl, by unfold visP; rw [hE, hn, decide_eq_true hA]; rfl⟩))))))
        · have hn : newer L (L.getD i default) s = true := hnw.2 ⟨by omega, hC, by omega⟩
          exact .inr (.inl ⟨eq_true hA, eq_false (by omega), decide_eq_true hC, eq_false hD, hP, by unfold visP; rw [hn]; simp⟩)
      · have hn : newer L (L.getD i default) s = false := by
          cases hh : newer L (L.getD i default) s with
          | false => rfl
          | true => exact absurd (hnw.1 hh).2.1 hC
        cases hE : (L.getD i default).del with
        | true => exact .inr (.inr (.inr (.inr (.inl ⟨eq_true hA, eq_false (by omega), decide_eq_false hC, hP, rfl, by unfold visP; rw [hE]; simp⟩))))
        | false => exact .inr (.inr (.inr (.inr (.inr (.inl ⟨eq_true hA, eq_false (by omega), decide_eq_false hC, hP, rfl, by unfold visP; rw [hE, hn, decide_eq_true hA]; rfl⟩)))))
  have hie : ((i : Int) - 1).toNat = i - 1 := by omega
  have hec : entC (L.getD i default) = [sv (L.getD i default).key, .i .i64 (L.getD i default).seq, .b (L.getD i default).del, sv (L.getD i default).val] := rfl
  have skip : visP L s (L.getD i default) = false → visU L s (i + 1) = visU L s i := fun h => by rw [hvs, h]; simp
  have putp : visP L s (L.getD i default) = true → visU L s (i + 1) = visU L s i ++ [L.getD i default] := fun h => by rw [hvs, h]; rfl
  rcases hcs _ rfl with ⟨dA, dB, dC, dD, dE, hv⟩ | ⟨dA, dB, dC, dD, dE, hv⟩ | ⟨dA, dB, dC, dD, dE, hv⟩ | ⟨dA, dB, dC, dD, dE, hv⟩ | ⟨dA, dB, dC, dD, dE, hv⟩ | ⟨dA, dB, dC, dD, dE, hv⟩ | ⟨dA, dB, dC, dD, dE, hv⟩ | ⟨dA, dB, dC, dD, dE, hv⟩
  all_goals
    (try have hiB : ¬ (i : Int) = 0 := of_eq_false dB)
    repeat' (first
      | refine St.h ?_
      | simp (disch := first | omega | (simp only [lnv]; omega)) only [wlk, ↓get_put', ↓reduceIte, seval, f0, f1, f5, f6, hL.ix, hL1.l0, hL1.l1, hL1.l2, hL1.la, hie, dA, dB, dC, dD, dE, Int.toNat_natCast]
      | (with_reducible (first | apply cd_split | apply gd_split)) <;> (intro hc; (try simp only [hcn] at hc); (try simp only [hc]); (try simp only [hcl] at hc); try omega))
    first
    | refine lp_next hI (L.length - (i + 1)) (by omega) ⟨i + 1, u, rfl, by omega, by simp (disch := first | omega | (simp only [lnv]; omega)) only [wlk, ↓get_put', ↓reduceIte, seval, f0], by simp (disch := first | omega | (simp only [lnv]; omega)) only [wlk, ↓get_put', ↓reduceIte, seval, f1], by simp (disch := first | omega | (simp only [lnv]; omega)) only [wlk, ↓get_put', ↓reduceIte, seval, f5], by simp (disch := first | omega | (simp only [lnv]; omega)) only [wlk, ↓get_put', ↓reduceIte, seval, f6]; rfl, st1, by rw [skip hv]; exact bf1, own, fun _ => hs⟩
    | refine AL.own (by simp) hfg1 fun g4 t4 _ o4 => ?_
      have hfg4 := t4.fl hfg1
      have bf4 := bf1.grow t4
      repeat' (first
        | refine St.h ?_
        | simp (disch := first | omega | (simp only [lnv]; omega)) only [wlk, ↓get_put', ↓reduceIte, seval, f0, f1, f5, f6]
        | (with_reducible (first | apply cd_split | apply gd_split)) <;> (intro hc; (try simp only [hcn] at hc); (try simp only [hc]); (try simp only [hcl] at hc); try omega))
      refine AP.buf (vs := entC (L.getD i default)) (cnt := 1) bf4 (new_row (by rw [hec, dE]; exact o4.row) rfl (Nat.le_refl _) (by omega) (by show 4 ≤ 4; omega)) hfg4 (by omega) rfl rfl (by rw [hfm, entC_len]; omega) fun u' g5 b5 t5 ho tp => ?_
      have s5 : Stay nowhere h g5 := (st1.trans t4).past' t5 fun q hq => own q hq
      repeat' (first
        | refine St.h ?_
        | simp (disch := first | omega | (simp only [lnv]; omega)) only [wlk, ↓get_put', ↓reduceIte, seval, f0, f1, f5, f6]
        | (with_reducible (first | apply cd_split | apply gd_split)) <;> (intro hc; (try simp only [hcn] at hc); (try simp only [hc]); (try simp only [hcl] at hc); try omega))
      refine lp_next hI (L.length - (i + 1)) (by omega) ⟨i + 1, u', rfl, by omega, by simp (disch := first | omega | (simp only [lnv]; omega)) only [wlk, ↓get_put', ↓reduceIte, seval, f0], by simp (disch := first | omega | (simp only [lnv]; omega)) only [wlk, ↓get_put', ↓reduceIte, seval, f1], by simp (disch := first | omega | (simp only [lnv]; omega)) only [wlk, ↓get_put', ↓reduceIte, seval], by simp (disch := first | omega | (simp only [lnv]; omega)) only [wlk, ↓get_put', ↓reduceIte, seval, f6]; rfl, s5, by rw [putp hv, List.flatMap_append]; simpa using b5, fun q hq => ?_, fun _ => hs⟩
      rcases ho q hq with h1 | h1
      · exact own q h1
      · have := st1.next; have := t4.next; omega
end Go.Proofs.Ytnjgoggnhdpnoaa

set_option maxRecDepth 100000
set_option maxHeartbeats 8000000
set_option linter.all false
namespace Go.Proofs.Ytnjgoggnhdpnoaa
open Go Go.Ev
theorem kl_lnM {P : Program} {h h0 : H} {N : Nx} {kd : IntKind} {v : V} {xs : List Int} (a : Kl h0 kd v xs) : H1 P gLen v h N = N.go P (.i .i64 (xs.length : Int)) h := by rw [Lst.ln a, List.length_map]
theorem kl_ixM {P : Program} {h h0 : H} {N : Nx} {kd : IntKind} {v : V} {xs : List Int} {i : Nat} (a : Kl h0 kd v xs) (hi : i < xs.length) : IX P 1 v i h N = N.go P (.p (lid v) (lg v) (loff v + i) (lfin v)) h := Lst.ix a (by simpa using hi)
theorem kl_ldM {P : Program} {h : H} {N : Nx} {kd : IntKind} {v : V} {xs : List Int} {i : Nat} (a : Kl h kd v xs) (hi : i < xs.length) : L1 P (lid v) (lg v) (loff v + i) (lfin v) h N = N.go P (.i kd (xs.getD i 0)) h := hv_of fun k => load_lst a (by simp [hi]) k
/-- the number of the next newer one of that key -/
def nwE (L : List Ent) (i : Nat) : Int := if 0 < i ∧ (L.getD (i - 1) default).key = (L.getD i default).key then (L.getD (i - 1) default).seq else 1000001
theorem want_nw {L : List Ent} {held : List Int} {i : Nat} (ha : L.all isE = true) (hs : sortedE L = true) (hi : i < L.length) :
    wantP L held (L.getD i default) = (decide (1000000 < nwE L i) || held.any fun n => decide ((L.getD i default).seq ≤ n) && decide (n < nwE L i)) := by
  have h1 := (isE_iff.1 (List.all_eq_true.1 ha _ (getD_memE hi))).1
  unfold wantP nwE
  rw [List.any_cons]
  by_cases hp : 0 < i ∧ (L.getD (i - 1) default).key = (L.getD i default).key
  · rw [if_pos hp]
    have h2 := (isE_iff.1 (List.all_eq_true.1 ha _ (getD_memE (i := i - 1) (by omega)))).1
    have hn : ∀ n : Int, newer L (L.getD i default) n = decide ((L.getD (i - 1) default).seq ≤ n) := fun n => by
      by_cases hc : (L.getD (i - 1) default).seq ≤ n
      · rw [decide_eq_true hc]; exact (newer_at hs hi).2 ⟨hp.1, hp.2, hc⟩
      · rw [decide_eq_false hc]
        cases hh : newer L (L.getD i default) n with
        | false => rfl
        | true => exact absurd ((newer_at hs hi).1 hh).2.2 hc
    rw [hn, decide_eq_true (p := (L.getD (i - 1) default).seq ≤ 1000000) (by omega), Bool.not_true, Bool.and_false, Bool.false_or, decide_eq_false (p := 1000000 < (L.getD (i - 1) default).seq) (by omega), Bool.false_or]
    congr 1
    funext n
    rw [hn]
    congr 1
    by_cases hc : (L.getD (i - 1) default).seq ≤ n
    · rw [decide_eq_true hc, decide_eq_false (p := n < (L.getD (i - 1) default).seq) (by omega)]; rfl
    · rw [decide_eq_false hc, decide_eq_true (p := n < (L.getD (i - 1) default).seq) (by omega)]; rfl
  · rw [if_neg hp]
    have hn : newer L (L.getD i default) 1000000 = false := by
      cases hh : newer L (L.getD i default) 1000000 with
      | false => rfl
      | true => have := (newer_at hs hi).1 hh; exact absurd ⟨this.1, this.2.1⟩ hp
    rw [hn, decide_eq_true (p := (L.getD i default).seq ≤ 1000000) (by omega), decide_eq_true (p := (1000000 : Int) < 1000001) (by omega)]; rfl
theorem any_takeI {q : Int → Bool} {xs : List Int} {i : Nat} (hi : i < xs.length) : (xs.take (i + 1)).any q = ((xs.take i).any q || q (xs.getD i 0)) := by
  rw [List.take_succ, List.any_append]; congr 1; simp [List.getD, hi]
/-- what is left of K, with the places from i on looked at -/
def botU (K : List Ent) (i : Nat) : List Ent := K.take i ++ botE (K.drop i)
theorem botU_all (K : List Ent) : botU K K.length = K := by unfold botU; rw [List.take_length, List.drop_length]; simp [botE]
theorem botU_zero (K : List Ent) : botU K 0 = botE K := by unfold botU; rw [List.take_zero, List.drop_zero]; rfl
theorem botU_len (K : List Ent) (i : Nat) : (botU K i).length ≤ K.length := by
  have h1 := (botE_sub (K.drop i)).length_le
  unfold botU
  rw [List.length_append, List.length_take]
  rw [List.length_drop] at h1; omega
theorem drop_entM {K : List Ent} {i : Nat} (hi : i < K.length) : K.drop i = K.getD i default :: K.drop (i + 1) := drop_ent hi
theorem botU_at {K : List Ent} {i : Nat} (hi : i < K.length) : (botU K (i + 1)).getD i default = K.getD i default := by
  unfold botU
  have h2 : i < min (i + 1) K.length := by omega
  simp [List.getD, List.getElem?_append, List.getElem?_take, h2, hi]
theorem botU_next {K : List Ent} {i : Nat} (hi : i < K.length) : (botU K (i + 1)).getD (i + 1) default = (botE (K.drop (i + 1))).getD 0 default := by
  unfold botU
  have : (K.take (i + 1)).length = i + 1 := by rw [List.length_take]; omega
  simp [List.getD, List.getElem?_append, this]
theorem botU_length {K : List Ent} {i : Nat} (hi : i ≤ K.length) : (botU K i).length = i + (botE (K.drop i)).length := by
  unfold botU; rw [List.length_append, List.length_take]; omega
theorem botU_keep {K : List Ent} {i : Nat} (hi : i < K.length) (h : (K.getD i default).del = false ∨ (botE (K.drop (i + 1)) ≠ [] ∧ ((botE (K.drop (i + 1))).getD 0 default).key = (K.getD i default).key)) : botU K i = botU K (i + 1) := by
  unfold botU
  rw [drop_entM hi, take_ent hi, List.append_assoc]
  congr 1
  rcases h with h | ⟨h1, h2⟩
  · rw [botE_put h]; rfl
  · rw [botE_same h1 h2]; rfl
theorem botU_gone {K : List Ent} {i : Nat} (hi : i < K.length) (h : (K.getD i default).del = true) (h2 : botE (K.drop (i + 1)) = [] ∨ ((botE (K.drop (i + 1))).getD 0 default).key ≠ (K.getD i default).key) : botU K i = (botU K (i + 1)).take i ++ (botU K (i + 1)).drop (i + 1) := by
  have hl : (K.take (i + 1)).length = i + 1 := by rw [List.length_take]; omega
  unfold botU
  rw [drop_entM hi, botE_del h h2]
  have e1 : (K.take (i + 1) ++ botE (K.drop (i + 1))).take i = K.take i := by
    rw [List.take_append_of_le_length (by omega), List.take_take, Nat.min_eq_left (Nat.le_succ i)]
  have e2 : (K.take (i + 1) ++ botE (K.drop (i + 1))).drop (i + 1) = botE (K.drop (i + 1)) := by
    rw [List.drop_append, hl, Nat.sub_self, List.drop_zero, List.drop_eq_nil_of_le (by omega), List.nil_append]
  rw [e1, e2]
theorem allOne_entM : ∀ L : List Ent, allOne (L.flatMap entC) = true
  | [] => rfl
  | a :: L => allOne_entM L
theorem rpack_ok {h : H} {v u : V} {L : List Ent} {S : List Int} {b : Bool} (hL : Es h v L) (hS : Kl h .i64 u S) (hl : L.length ≤ 5000) (hsl : S.length ≤ 9223372036854775807) (hw : ∀ n ∈ S, -9223372036854775808 ≤ n ∧ n ≤ 9223372036854775807) (hf : B.val h.floor ≤ B.val h.next) : FnOk Try.prog 17 [v, u, .b b] h fun y h' =>
    Es h' y (packE L S b) ∧ SwN 4 y ∧ Stay nowhere h h' := by
  refine fn_go c17 (by intro hb; cases hb) (by simp) (by simp) fun Q hQ => ?_
  simp only [slotsF, Nat.reduceAdd]
  repeat' (first
    | refine St.h ?_
    | simp (disch := first | omega | (simp only [lnv]; omega)) only [wlk, ↓get_put', ↓reduceIte, seval]
    | (with_reducible (first | apply cd_split | apply gd_split)) <;> (intro hc; (try simp only [hcn] at hc); (try simp only [hc]); (try simp only [hcl] at hc); try omega))
  refine Ok.lp (fun m t g => ∃ i : Nat, m = L.length - i ∧ i ≤ L.length ∧ get 0 t = v ∧ get 1 t = u ∧ get 2 t = .b b ∧ get 7 t = .i .i64 (i : Int) ∧ Stay nowhere h g ∧ (∀ q, q < i → isE (L.getD q default) = true)) L.length ?_ ?_
  · simp (disch := first | omega | (simp only [lnv]; omega)) only [wlk, ↓get_put', ↓reduceIte, seval]
    refine ⟨0, by omega, by omega, ?_⟩
    refine ⟨?_, ?_, ?_, ?_, Stay.refl _ _, fun q hq => by omega⟩
    all_goals first | trivial | rfl
  rintro I hI m t g ⟨i, rfl, hi, f0, f1, f2, f7, st, hie⟩
  have hfg := st.fl hf
  have hLg := hL.grow st
  by_cases hil : i < L.length
  case pos =>
    repeat' (first
      | refine St.h ?_
      | simp (disch := first | omega | (simp only [lnv]; omega)) only [wlk, ↓get_put', ↓reduceIte, seval, f0, f1, f2, f7, hL.ln, hL.ix, hLg.la, Int.toNat_natCast]
      | (with_reducible (first | apply cd_split | apply gd_split)) <;> (intro hc; (try simp only [hcn] at hc); (try simp only [hc]); (try simp only [hcl] at hc); try omega))
    refine CL.stay (ris_ok (e := L.getD i default) hfg) fun g1 t1 => ?_
    cases hh : isE (L.getD i default) with
    | false =>
      repeat' (first
        | refine St.h ?_
        | simp (disch := first | omega | (simp only [lnv]; omega)) only [wlk, ↓get_put', ↓reduceIte, seval]
        | (with_reducible (first | apply cd_split | apply gd_split)) <;> (intro hc; (try simp only [hcn] at hc); (try simp only [hc]); (try simp only [hcl] at hc); try omega))
      subst hQ
      have := packE_bad (held := S) (b := b) (.inl (all_at hil hh))
      exact ⟨by rw [this]; exact Ss.nil, .inl rfl, st.trans t1⟩
    | true =>
      repeat' (first
        | refine St.h ?_
        | simp (disch := first | omega | (simp only [lnv]; omega)) only [wlk, ↓get_put', ↓reduceIte, seval, f0, f1, f2, f7]
        | (with_reducible (first | apply cd_split | apply gd_split)) <;> (intro hc; (try simp only [hcn] at hc); (try simp only [hc]); (try simp only [hcl] at hc); try omega))
      refine lp_next hI (L.length - (i + 1)) (by omega) ⟨i + 1, rfl, by omega, by simp (disch := first | omega | (simp only [lnv]; omega)) only [wlk, ↓get_put', ↓reduceIte, seval, f0], by simp (disch := first | omega | (simp only [lnv]; omega)) only [wlk, ↓get_put', ↓reduceIte, seval, f1], by simp (disch := first | omega | (simp only [lnv]; omega)) only [wlk, ↓get_put', ↓reduceIte, seval, f2], by simp (disch := first | omega | (simp only [lnv]; omega)) only [wlk, ↓get_put', ↓reduceIte, seval, f7]; rfl, st.trans t1, fun q hq => ?_⟩
      by_cases e : q = i
      · rw [e]; exact hh
      · exact hie q (by omega)
  obtain rfl : i = L.length := by omega
  have hall : L.all isE = true := all_ok hie
  repeat' (first
    | refine St.h ?_
    | simp (disch := first | omega | (simp only [lnv]; omega)) only [wlk, ↓get_put', ↓reduceIte, seval, f0, f1, f2, f7, hL.ln]
    | (with_reducible (first | apply cd_split | apply gd_split)) <;> (intro hc; (try simp only [hcn] at hc); (try simp only [hc]); (try simp only [hcl] at hc); try omega))
  refine CL.stay (rsorted_ok hLg (by omega) hfg) fun g1 t1 => ?_
  have hfg1 := t1.fl hfg
  have st1 := st.trans t1
  cases hs : sortedE L with
  | false =>
    repeat' (first
      | refine St.h ?_
      | simp (disch := first | omega | (simp only [lnv]; omega)) only [wlk, ↓get_put', ↓reduceIte, seval]
      | (with_reducible (first | apply cd_split | apply gd_split)) <;> (intro hc; (try simp only [hcn] at hc); (try simp only [hc]); (try simp only [hcl] at hc); try omega))
    subst hQ
    have := packE_bad (held := S) (b := b) (.inr hs)
    exact ⟨by rw [this]; exact Ss.nil, .inl rfl, st1⟩
  | true =>
  have hok := packE_ok (held := S) (b := b) hall hs
  repeat' (first
    | refine St.h ?_
    | simp (disch := first | omega | (simp only [lnv]; omega)) only [wlk, ↓get_put', ↓reduceIte, seval, f0, f1, f2]
    | (with_reducible (first | apply cd_split | apply gd_split)) <;> (intro hc; (try simp only [hcn] at hc); (try simp only [hc]); (try simp only [hcl] at hc); try omega))
  refine Ok.lp (fun m t g => ∃ (i : Nat) (w : V), m = L.length - i ∧ i ≤ L.length ∧ get 0 t = v ∧ get 1 t = u ∧ get 2 t = .b b ∧ get 8 t = w ∧ get 9 t = .i .i64 (i : Int) ∧ Stay nowhere h g ∧ Buf g 39 4 w (((L.take i).filter (wantP L S)).flatMap entC) ∧ (∀ q, isOf w q → B.val h.next ≤ B.val q)) L.length ?_ ?_
  · simp (disch := first | omega | (simp only [lnv]; omega)) only [wlk, ↓get_put', ↓reduceIte, seval, f0, f1, f2]
    refine ⟨0, .l0, by omega, by omega, ?_⟩
    refine ⟨?_, ?_, ?_, ?_, ?_, st1, by rw [List.take_zero]; exact Buf.nil _ _ _, ?_⟩
    rotate_right
    · rintro i ⟨_, _, _, _, _, e⟩; cases e
    all_goals first | trivial | rfl
  rintro I2 hI2 m2 t2 g2 ⟨i, w, rfl, hi2, e0, e1, e2, e8, e9, st2, bf, own⟩
  have hfg2 := st2.fl hf
  have hL2 := hL.grow st2
  have hS2 : Kl g2 .i64 u S := Lst.grow hS st2
  by_cases hil2 : i < L.length
  case pos =>
    have hwn := want_nw (held := S) hall hs hil2
    have hse := (isE_iff.1 (List.all_eq_true.1 hall _ (getD_memE hil2))).1
    have hft := filter_takeE (q := wantP L S) hil2
    have hfm := fm_len entC_len ((L.take i).filter (wantP L S))
    have hvl : ((L.take i).filter (wantP L S)).length ≤ L.length := by
      have h1 := List.length_filter_le (wantP L S) (L.take i)
      have h2 : (L.take i).length ≤ L.length := by rw [List.length_take]; omega
      omega
    have hie2 : ((i : Int) - 1).toNat = i - 1 := by omega
    have hnw : -9223372036854775808 ≤ nwE L i ∧ nwE L i ≤ 9223372036854775807 ∧ (0 < i → (L.getD (i - 1) default).seq ≤ 1000000 ∧ 1 ≤ (L.getD (i - 1) default).seq) := by
      have hp : 0 < i → 1 ≤ (L.getD (i - 1) default).seq ∧ (L.getD (i - 1) default).seq ≤ 1000000 := fun h0 => (isE_iff.1 (List.all_eq_true.1 hall _ (getD_memE (i := i - 1) (by omega)))).1
      unfold nwE
      split
      · rename_i h0; have := hp h0.1; exact ⟨by omega, by omega, fun h => ⟨(hp h).2, (hp h).1⟩⟩
      · exact ⟨by omega, by omega, fun h => ⟨(hp h).2, (hp h).1⟩⟩
    have hcs : ∀ P : Prop, (P = ((2 = 3) = False)) → ((0 < (i : Int)) = False ∧ P ∧ nwE L i = 1000001) ∨ ((0 < (i : Int)) = True ∧ decide ((L.getD (i - 1) default).key = (L.getD i default).key) = false ∧ nwE L i = 1000001) ∨ ((0 < (i : Int)) = True ∧ decide ((L.getD (i - 1) default).key = (L.getD i default).key) = true ∧ nwE L i = (L.getD (i - 1) default).seq) := by
      intro P hP
      have hP : P := by rw [hP]; exact eq_false (by decide)
      unfold nwE
      by_cases h0 : 0 < i
      · by_cases hk : (L.getD (i - 1) default).key = (L.getD i default).key
        · exact .inr (.inr ⟨eq_true (by omega), decide_eq_true hk, if_pos ⟨h0, hk⟩⟩)
        · exact .inr (.inl ⟨eq_true (by omega), decide_eq_false hk, if_neg fun h => hk h.2⟩)
      · exact .inl ⟨eq_false (by omega), hP, if_neg fun h => h0 h.1⟩
    rcases hcs _ rfl with ⟨d1, d2, d3⟩ | ⟨d1, d2, d3⟩ | ⟨d1, d2, d3⟩
    all_goals
      (try have hi0 : 0 < (i : Int) := of_eq_true d1)
      repeat' (first
        | refine St.h ?_
        | simp (disch := first | omega | (simp only [lnv]; omega)) only [wlk, ↓get_put', ↓reduceIte, seval, e0, e1, e2, e8, e9, hL.ln, hL.ix, hL2.l0, hL2.l1, hie2, d1, d2, Int.toNat_natCast]
        | (with_reducible (first | apply cd_split | apply gd_split)) <;> (intro hc; (try simp only [hcn] at hc); (try simp only [hc]); (try simp only [hcl] at hc); try omega))
      refine Ok.lp (fun m t g => ∃ k : Nat, m = S.length - k ∧ k ≤ S.length ∧ g2 = g ∧ get 0 t = v ∧ get 1 t = u ∧ get 2 t = .b b ∧ get 8 t = w ∧ get 9 t = .i .i64 (i : Int) ∧ get 10 t = .i .i64 (nwE L i) ∧ get 11 t = .b (decide (1000000 < nwE L i) || (S.take k).any fun n => decide ((L.getD i default).seq ≤ n) && decide (n < nwE L i)) ∧ get 12 t = .i .i64 (k : Int)) S.length ?_ ?_
      · have hw0 : ∀ q : Int → Bool, (S.take 0).any q = false := fun q => by rw [List.take_zero]; rfl
        have hd9 : nwE L i = 1000001 → decide (1000000 < nwE L i) = true := fun h => by rw [h]; rfl
        have hdp : (L.getD (i - 1) default).seq ≤ 1000000 → nwE L i = (L.getD (i - 1) default).seq → decide (1000000 < nwE L i) = false := fun h1 h2 => by rw [h2]; exact decide_eq_false (by omega)
        simp (disch := first | omega | (simp only [lnv]; omega)) only [wlk, ↓get_put', ↓reduceIte, seval, e0, e1, e2, e8, e9]
        refine ⟨0, by omega, by omega, ?_⟩
        refine ⟨?_, ?_, ?_, ?_, ?_, ?_, ?_, ?_, ?_⟩
        all_goals first | trivial | rfl | (rw [d3]; done) | (rw [hw0, Bool.or_false, hd9 d3]; done) | (rw [hw0, Bool.or_false, d3]; done) | (rw [hw0, Bool.or_false, hdp (hnw.2.2 (by omega)).1 d3]; done)
      rintro I3 hI3 m3 t3 g3 ⟨k, rfl, hk3, rfl, c0, c1, c2, c8, c9, c10, c11, c12⟩
      by_cases hkl : k < S.length
      case pos =>
        have hak := any_takeI (q := fun n => decide ((L.getD i default).seq ≤ n) && decide (n < nwE L i)) hkl
        have hsk := hw (S.getD k 0) (by rw [show S.getD k 0 = S[k] by simp [List.getD, hkl]]; simp)
        generalize hnn : nwE L i = nn at *
        generalize hsq : (L.getD i default).seq = sq at *
        have hak2 : (decide (1000000 < nn) || (S.take (k + 1)).any fun n => decide (sq ≤ n) && decide (n < nn)) = ((decide (1000000 < nn) || (S.take k).any fun n => decide (sq ≤ n) && decide (n < nn)) || (decide (sq ≤ S.getD k 0) && decide (S.getD k 0 < nn))) := by rw [hak, Bool.or_assoc]
        have hl1 : ∀ N, L1 Try.prog (lid v) (lg v) (loff v + i * 4 + 1) (lfin v) g2 N = N.go Try.prog (.i .i64 sq) g2 := fun N => by have := hL2.l1 (P := Try.prog) (N := N) hil2; rwa [hsq] at this
        generalize hbb : (decide (1000000 < nn) || (S.take k).any fun n => decide (sq ≤ n) && decide (n < nn)) = bb at *
        have hc2 : ∀ P : Prop, (P = ((2 = 3) = False)) → (bb = true ∧ P ∧ P ∧ (bb || (decide (sq ≤ S.getD k 0) && decide (S.getD k 0 < nn))) = true) ∨ (bb = false ∧ (sq ≤ S.getD k 0) = False ∧ P ∧ (bb || (decide (sq ≤ S.getD k 0) && decide (S.getD k 0 < nn))) = false) ∨
            (bb = false ∧ (sq ≤ S.getD k 0) = True ∧ (S.getD k 0 < nn) = False ∧ (bb || (decide (sq ≤ S.getD k 0) && decide (S.getD k 0 < nn))) = false) ∨ (bb = false ∧ (sq ≤ S.getD k 0) = True ∧ (S.getD k 0 < nn) = True ∧ (bb || (decide (sq ≤ S.getD k 0) && decide (S.getD k 0 < nn))) = true) := by
          intro P hP
          have hP : P := by rw [hP]; exact eq_false (by decide)
          cases bb with
          | true => exact .inl ⟨rfl, hP, hP, rfl⟩
          | false =>
            by_cases hA : sq ≤ S.getD k 0
            · by_cases hB : S.getD k 0 < nn
              · exact .inr (.inr (.inr ⟨rfl, eq_true hA, eq_true hB, by rw [decide_eq_true hA, decide_eq_true hB]; rfl⟩))
              · exact .inr (.inr (.inl ⟨rfl, eq_true hA, eq_false hB, by rw [decide_eq_false hB, Bool.and_false]; rfl⟩))
            · exact .inr (.inl ⟨rfl, eq_false hA, hP, by rw [decide_eq_false hA]; rfl⟩)
        rcases hc2 _ rfl with ⟨x1, x2, x3, x4⟩ | ⟨x1, x2, x3, x4⟩ | ⟨x1, x2, x3, x4⟩ | ⟨x1, x2, x3, x4⟩
        all_goals
          rw [x4] at hak2
          rw [x1] at c11
          repeat' (first
            | refine St.h ?_
            | simp (disch := first | omega | (simp only [lnv]; omega)) only [wlk, ↓get_put', ↓reduceIte, seval, c0, c1, c2, c8, c9, c10, c11, c12, kl_lnM hS2, kl_ixM hS2, kl_ldM hS2, hL.ix, hl1, x2, x3, Int.toNat_natCast]
            | (with_reducible (first | apply cd_split | apply gd_split)) <;> (intro hc; (try simp only [hcn] at hc); (try simp only [hc]); (try simp only [hcl] at hc); try omega))
          refine lp_next hI3 (S.length - (k + 1)) (by omega) ⟨k + 1, rfl, by omega, rfl, by simp (disch := first | omega | (simp only [lnv]; omega)) only [wlk, ↓get_put', ↓reduceIte, seval, c0], by simp (disch := first | omega | (simp only [lnv]; omega)) only [wlk, ↓get_put', ↓reduceIte, seval, c1], by simp (disch := first | omega | (simp only [lnv]; omega)) only [wlk, ↓get_put', ↓reduceIte, seval, c2], by simp (disch := first | omega | (simp only [lnv]; omega)) only [wlk, ↓get_put', ↓reduceIte, seval, c8], by simp (disch := first | omega | (simp only [lnv]; omega)) only [wlk, ↓get_put', ↓reduceIte, seval, c9], by simp (disch := first | omega | (simp only [lnv]; omega)) only [wlk, ↓get_put', ↓reduceIte, seval, c10], by simp (disch := first | omega | (simp only [lnv]; omega)) only [wlk, ↓get_put', ↓reduceIte, seval, c11, hak2], by simp (disch := first | omega | (simp only [lnv]; omega)) only [wlk, ↓get_put', ↓reduceIte, seval, c12]; rfl⟩
      obtain rfl : k = S.length := by omega
      rw [List.take_length, ← hwn] at c11
      cases hwp : wantP L S (L.getD i default) with
      | false =>
        rw [hwp] at hft
        have hft : (L.take (i + 1)).filter (wantP L S) = (L.take i).filter (wantP L S) := by rw [hft]; simp
        rw [hwp] at c11
        repeat' (first
          | refine St.h ?_
          | simp (disch := first | omega | (simp only [lnv]; omega)) only [wlk, ↓get_put', ↓reduceIte, seval, c0, c1, c2, c8, c9, c10, c11, c12, kl_lnM hS2]
          | (with_reducible (first | apply cd_split | apply gd_split)) <;> (intro hc; (try simp only [hcn] at hc); (try simp only [hc]); (try simp only [hcl] at hc); try omega))
        refine lp_next hI2 (L.length - (i + 1)) (by omega) ⟨i + 1, w, rfl, by omega, by simp (disch := first | omega | (simp only [lnv]; omega)) only [wlk, ↓get_put', ↓reduceIte, seval, c0], by simp (disch := first | omega | (simp only [lnv]; omega)) only [wlk, ↓get_put', ↓reduceIte, seval, c1], by simp (disch := first | omega | (simp only [lnv]; omega)) only [wlk, ↓get_put', ↓reduceIte, seval, c2], by simp (disch := first | omega | (simp only [lnv]; omega)) only [wlk, ↓get_put', ↓reduceIte, seval, c8], by simp (disch := first | omega | (simp only [lnv]; omega)) only [wlk, ↓get_put', ↓reduceIte, seval, c9]; rfl, st2, by rw [hft]; exact bf, own⟩
      | true =>
        rw [hwp, if_pos rfl] at hft
        rw [hwp] at c11
        repeat' (first
          | refine St.h ?_
          | simp (disch := first | omega | (simp only [lnv]; omega)) only [wlk, ↓get_put', ↓reduceIte, seval, c0, c1, c2, c8, c9, c10, c11, c12, kl_lnM hS2, hL.ix, hL2.la, Int.toNat_natCast]
          | (with_reducible (first | apply cd_split | apply gd_split)) <;> (intro hc; (try simp only [hcn] at hc); (try simp only [hc]); (try simp only [hcl] at hc); try omega))
        refine AL.own (by simp) hfg2 fun g4 t4 _ o4 => ?_
        have hfg4 := t4.fl hfg2
        have bf4 := bf.grow t4
        repeat' (first
          | refine St.h ?_
          | simp (disch := first | omega | (simp only [lnv]; omega)) only [wlk, ↓get_put', ↓reduceIte, seval, c0, c1, c2, c8, c9]
          | (with_reducible (first | apply cd_split | apply gd_split)) <;> (intro hc; (try simp only [hcn] at hc); (try simp only [hc]); (try simp only [hcl] at hc); try omega))
        refine AP.buf (vs := entC (L.getD i default)) (cnt := 1) bf4 (new_row o4.row rfl (Nat.le_refl _) (by omega) (by show 4 ≤ 4; omega)) hfg4 (by omega) rfl rfl (by rw [hfm, entC_len]; omega) fun u' g5 b5 t5 ho tp => ?_
        have s5 : Stay nowhere h g5 := (st2.trans t4).past' t5 fun q hq => own q hq
        repeat' (first
          | refine St.h ?_
          | simp (disch := first | omega | (simp only [lnv]; omega)) only [wlk, ↓get_put', ↓reduceIte, seval, c0, c1, c2, c8, c9]
          | (with_reducible (first | apply cd_split | apply gd_split)) <;> (intro hc; (try simp only [hcn] at hc); (try simp only [hc]); (try simp only [hcl] at hc); try omega))
        refine lp_next hI2 (L.length - (i + 1)) (by omega) ⟨i + 1, u', rfl, by omega, by simp (disch := first | omega | (simp only [lnv]; omega)) only [wlk, ↓get_put', ↓reduceIte, seval, c0], by simp (disch := first | omega | (simp only [lnv]; omega)) only [wlk, ↓get_put', ↓reduceIte, seval, c1], by simp (disch := first | omega | (simp only [lnv]; omega)) only [wlk, ↓get_put', ↓reduceIte, seval, c2], by simp (disch := first | omega | (simp only [lnv]; omega)) only [wlk, ↓get_put', ↓reduceIte, seval], by simp (disch := first | omega | (simp only [lnv]; omega)) only [wlk, ↓get_put', ↓reduceIte, seval, c9]; rfl, s5, by rw [hft, List.flatMap_append]; simpa using b5, fun q hq => ?_⟩
        rcases ho q hq with h1 | h1
        · exact own q h1
        · have := st2.next; have := t4.next; omega
  obtain rfl : i = L.length := by omega
  rw [List.take_length] at bf
  have hKl : (L.filter (wantP L S)).length ≤ L.length := List.length_filter_le ..
  generalize L.filter (wantP L S) = K at *
  have hw8 : Es g2 w K := Ss.buf bf rfl entC_len (by omega)
  repeat' (first
    | refine St.h ?_
    | simp (disch := first | omega | (simp only [lnv]; omega)) only [wlk, ↓get_put', ↓reduceIte, seval, e0, e1, e2, e8, e9, hL.ln, hw8.ln]
    | (with_reducible (first | apply cd_split | apply gd_split)) <;> (intro hc; (try simp only [hcn] at hc); (try simp only [hc]); (try simp only [hcl] at hc); try omega))
  have hfin : ∀ X : List Ent, X = (if b then botE K else K) → ∀ g3 w3, Es g3 w3 X → SwN 4 w3 → Stay nowhere h g3 → Q w3 g3 := fun X hX g3 w3 h1 h2 h3 => by
    rw [hQ]; exact ⟨by rw [hok, ← hX]; exact h1, h2, h3⟩
  refine Ok.lp (fun m t g => ∃ (i : Nat) (w : V), m = i ∧ i ≤ K.length ∧ get 2 t = .b b ∧ get 8 t = w ∧ get 13 t = .i .i64 ((i : Int) - 1) ∧ Stay nowhere h g ∧ Es g w (botU K i) ∧ SwN 4 w ∧ (i < K.length → b = true)) K.length ?_ ?_
  · simp (disch := first | omega | (simp only [lnv]; omega)) only [wlk, ↓get_put', ↓reduceIte, seval, e2, e8]
    refine ⟨K.length, w, rfl, by omega, ?_⟩
    refine ⟨?_, ?_, ?_, st2, by rw [botU_all]; exact hw8, swn_bufE bf, fun h => by omega⟩
    all_goals first | trivial | rfl
  rintro I4 hI4 i t4 g4 ⟨_, w4, rfl, hi4, c2, c8, c13, st4, hw4, hs4, hb4⟩
  have hfg4 := st4.fl hf
  by_cases hi0 : i = 0
  case pos =>
    subst hi0
    have hz : ((0 : Nat) : Int) - 1 = -1 := rfl
    rw [hz] at c13
    rw [botU_zero] at hw4
    repeat' (first
      | refine St.h ?_
      | simp (disch := first | omega | (simp only [lnv]; omega)) only [wlk, ↓get_put', ↓reduceIte, seval, c2, c8, c13]
      | (with_reducible (first | apply cd_split | apply gd_split)) <;> (intro hc; (try simp only [hcn] at hc); (try simp only [hc]); (try simp only [hcl] at hc); try omega))
    refine hfin _ ?_ _ _ hw4 hs4 st4
    by_cases hK0 : K.length = 0
    · have : K = [] := List.eq_nil_of_length_eq_zero hK0
      rw [this]; cases b <;> rfl
    · rw [hb4 (by omega)]; rfl
  obtain ⟨p, rfl⟩ : ∃ p, i = p + 1 := ⟨i - 1, by omega⟩
  have hp : ((p + 1 : Nat) : Int) - 1 = (p : Int) := by omega
  rw [hp] at c13
  have hpK : p < K.length := by omega
  cases b with
  | false =>
    have hpe : p + 1 = K.length := Classical.byContradiction fun h => by have := hb4 (by omega); cases this
    rw [hpe, botU_all] at hw4
    repeat' (first
      | refine St.h ?_
      | simp (disch := first | omega | (simp only [lnv]; omega)) only [wlk, ↓get_put', ↓reduceIte, seval, c2, c8, c13]
      | (with_reducible (first | apply cd_split | apply gd_split)) <;> (intro hc; (try simp only [hcn] at hc); (try simp only [hc]); (try simp only [hcl] at hc); try omega))
    exact hfin _ rfl _ _ hw4 hs4 st4
  | true =>
  have hat := botU_at hpK
  have hnx := botU_next hpK
  have hbl := botU_length (K := K) (i := p + 1) (by omega)
  have hbl2 := botU_len K (p + 1)
  have hpO : p < (botU K (p + 1)).length := by omega
  have hex : K.getD p default = K.getD p default := rfl
  cases hdel : (K.getD p default).del with
  | false =>
    have hk := botU_keep hpK (.inl hdel)
    have l2 : ∀ N, L1 Try.prog (lid w4) (lg w4) (loff w4 + p * 4 + 2) (lfin w4) g4 N = N.go Try.prog (.b false) g4 := fun N => by have := hw4.l2 (P := Try.prog) (N := N) hpO; rwa [hat, hdel] at this
    repeat' (first
      | refine St.h ?_
      | simp (disch := first | omega | (simp only [lnv]; omega)) only [wlk, ↓get_put', ↓reduceIte, seval, c2, c8, c13, hw4.ln, hw4.ix hpO, l2, Int.toNat_natCast]
      | (with_reducible (first | apply cd_split | apply gd_split)) <;> (intro hc; (try simp only [hcn] at hc); (try simp only [hc]); (try simp only [hcl] at hc); try omega))
    refine lp_next hI4 p (by omega) ⟨p, w4, rfl, by omega, by simp (disch := first | omega | (simp only [lnv]; omega)) only [wlk, ↓get_put', ↓reduceIte, seval, c2], by simp (disch := first | omega | (simp only [lnv]; omega)) only [wlk, ↓get_put', ↓reduceIte, seval, c8], by simp (disch := first | omega | (simp only [lnv]; omega)) only [wlk, ↓get_put', ↓reduceIte, seval, c13], st4, by rw [hk]; exact hw4, hs4, fun _ => rfl⟩
  | true =>
  have l2 : ∀ N, L1 Try.prog (lid w4) (lg w4) (loff w4 + p * 4 + 2) (lfin w4) g4 N = N.go Try.prog (.b true) g4 := fun N => by have := hw4.l2 (P := Try.prog) (N := N) hpO; rwa [hat, hdel] at this
  have hp1 : (p : Int) + 1 = ((p + 1 : Nat) : Int) := by omega
  have hln : ∀ g N, H1 Try.prog gLen w4 g N = N.go Try.prog (.i .i64 (((p + 1 + (botE (K.drop (p + 1))).length) : Nat) : Int)) g := fun g N => by have := hw4.ln (P := Try.prog) (g' := g) (N := N); rwa [hbl] at this
  obtain ⟨uh, uh1, uh2, uh3⟩ := Ss.hi (P := Try.prog) (kd := .i64) hw4 entC_len hs4 (k := p) (by omega)
  obtain ⟨ul, ul1, ul2, ul3⟩ := Ss.lo (P := Try.prog) (kd := .i64) hw4 entC_len hs4 (k := p + 1) (by omega)
  have hlh : ((botU K (p + 1)).take p).length = p := by rw [List.length_take]; omega
  have hll : ((botU K (p + 1)).drop (p + 1)).length = (botE (K.drop (p + 1))).length := by rw [List.length_drop]; omega
  have fa := fm_len entC_len ((botU K (p + 1)).take p)
  have fb := fm_len entC_len ((botU K (p + 1)).drop (p + 1))
  by_cases hkeep : botE (K.drop (p + 1)) ≠ [] ∧ ((botE (K.drop (p + 1))).getD 0 default).key = (K.getD p default).key
  case pos =>
    have hk := botU_keep hpK (.inr hkeep)
    have hF : 1 ≤ (botE (K.drop (p + 1))).length := by cases h : botE (K.drop (p + 1)) with | nil => exact absurd h hkeep.1 | cons => simp
    have hne : ((p : Int) = (((p + 1 + (botE (K.drop (p + 1))).length) : Nat) : Int) - 1) = False := eq_false (by omega)
    have hnO : p + 1 < (botU K (p + 1)).length := by omega
    have dC : decide (((botU K (p + 1)).getD (p + 1) default).key = ((botU K (p + 1)).getD p default).key) = true := by rw [hat, hnx]; exact decide_eq_true hkeep.2
    repeat' (first
      | refine St.h ?_
      | simp (disch := first | omega | (simp only [lnv]; omega)) only [wlk, ↓get_put', ↓reduceIte, seval, c2, c8, c13, hln, hw4.ix hpO, hw4.ix hnO, hw4.l0 hpO, hw4.l0 hnO, l2, hne, hp1, dC, Int.toNat_natCast]
      | (with_reducible (first | apply cd_split | apply gd_split)) <;> (intro hc; (try simp only [hcn] at hc); (try simp only [hc]); (try simp only [hcl] at hc); try omega))
    refine lp_next hI4 p (by omega) ⟨p, w4, rfl, by omega, by simp (disch := first | omega | (simp only [lnv]; omega)) only [wlk, ↓get_put', ↓reduceIte, seval, c2], by simp (disch := first | omega | (simp only [lnv]; omega)) only [wlk, ↓get_put', ↓reduceIte, seval, c8], by simp (disch := first | omega | (simp only [lnv]; omega)) only [wlk, ↓get_put', ↓reduceIte, seval, c13], st4, by rw [hk]; exact hw4, hs4, fun _ => rfl⟩
  have hgo : botE (K.drop (p + 1)) = [] ∨ ((botE (K.drop (p + 1))).getD 0 default).key ≠ (K.getD p default).key := by
    by_cases h : botE (K.drop (p + 1)) = []
    · exact .inl h
    · exact .inr fun e => hkeep ⟨h, e⟩
  have hk := botU_gone hpK hdel hgo
  have hcs : ∀ P : Prop, (P = ((2 = 3) = False)) → (((p : Int) = (((p + 1 + (botE (K.drop (p + 1))).length) : Nat) : Int) - 1) = True ∧ P) ∨ (((p : Int) = (((p + 1 + (botE (K.drop (p + 1))).length) : Nat) : Int) - 1) = False ∧ decide (((botU K (p + 1)).getD (p + 1) default).key = ((botU K (p + 1)).getD p default).key) = false) := by
    intro P hP
    have hP : P := by rw [hP]; exact eq_false (by decide)
    by_cases h : botE (K.drop (p + 1)) = []
    · have : (botE (K.drop (p + 1))).length = 0 := by rw [h]; rfl
      exact .inl ⟨eq_true (by omega), hP⟩
    · have : 1 ≤ (botE (K.drop (p + 1))).length := by cases h2 : botE (K.drop (p + 1)) with | nil => exact absurd h2 h | cons => simp
      exact .inr ⟨eq_false (by omega), by rw [hat, hnx]; exact decide_eq_false (hgo.resolve_left h)⟩
  rcases hcs _ rfl with ⟨dB, dC⟩ | ⟨dB, dC⟩
  · repeat' (first
      | refine St.h ?_
      | simp (disch := first | omega | (simp only [lnv]; omega)) only [wlk, ↓get_put', ↓reduceIte, seval, c2, c8, c13, hln, hw4.ix hpO, hw4.l0 hpO, l2, dB, hp1, uh3, ul3, Int.toNat_natCast]
      | (with_reducible (first | apply cd_split | apply gd_split)) <;> (intro hc; (try simp only [hcn] at hc); (try simp only [hc]); (try simp only [hcl] at hc); try omega))
    refine AP.buf (vs := ((botU K (p + 1)).take p).flatMap entC) (cnt := ((botU K (p + 1)).take p).length) (Buf.nil _ _ _) (new_ss uh1 entC_len (by omega)) hfg4 (by omega) fa (allOne_entM _) (by rw [fa]; simp; omega) fun u5 g5 b5 t5 ho5 tp5 => ?_
    have t5 : Stay nowhere g4 g5 := t5.mono fun q _ hq => by obtain ⟨_, _, _, _, _, e⟩ := hq; cases e
    have hfg5 := t5.fl hfg4
    have ul5 := ul1.grow t5
    repeat' (first
      | refine St.h ?_
      | simp (disch := first | omega | (simp only [lnv]; omega)) only [wlk, ↓get_put', ↓reduceIte, seval, c2, c8, c13, hp1, ul3]
      | (with_reducible (first | apply cd_split | apply gd_split)) <;> (intro hc; (try simp only [hcn] at hc); (try simp only [hc]); (try simp only [hcl] at hc); try omega))
    refine AP.buf (vs := ((botU K (p + 1)).drop (p + 1)).flatMap entC) (cnt := ((botU K (p + 1)).drop (p + 1)).length) b5 (new_ss ul5 entC_len (by omega)) hfg5 (by omega) fb (allOne_entM _) (by rw [fb]; simp [fa]; omega) fun u6 g6 b6 t6 ho6 tp6 => ?_
    have t6 : Stay nowhere g4 g6 := t5.past' t6 fun q hq => by
      rcases ho5 q hq with ⟨_, _, _, _, _, e⟩ | h
      · cases e
      · exact h
    have e6 : [] ++ ((botU K (p + 1)).take p).flatMap entC ++ ((botU K (p + 1)).drop (p + 1)).flatMap entC = (botU K p).flatMap entC := by rw [List.nil_append, ← List.flatMap_append, ← hk]
    rw [e6] at b6
    repeat' (first
      | refine St.h ?_
      | simp (disch := first | omega | (simp only [lnv]; omega)) only [wlk, ↓get_put', ↓reduceIte, seval, c2, c8, c13]
      | (with_reducible (first | apply cd_split | apply gd_split)) <;> (intro hc; (try simp only [hcn] at hc); (try simp only [hc]); (try simp only [hcl] at hc); try omega))
    refine lp_next hI4 p (by omega) ⟨p, u6, rfl, by omega, by simp (disch := first | omega | (simp only [lnv]; omega)) only [wlk, ↓get_put', ↓reduceIte, seval, c2], by simp (disch := first | omega | (simp only [lnv]; omega)) only [wlk, ↓get_put', ↓reduceIte, seval], by simp (disch := first | omega | (simp only [lnv]; omega)) only [wlk, ↓get_put', ↓reduceIte, seval, c13], st4.trans t6, Ss.buf b6 rfl entC_len (by omega), swn_bufE b6, fun _ => rfl⟩
  · have hnO : p + 1 < (botU K (p + 1)).length := by have := of_eq_false dB; omega
    repeat' (first
      | refine St.h ?_
      | simp (disch := first | omega | (simp only [lnv]; omega)) only [wlk, ↓get_put', ↓reduceIte, seval, c2, c8, c13, hln, hw4.ix hpO, hw4.ix hnO, hw4.l0 hpO, hw4.l0 hnO, l2, dB, hp1, dC, uh3, ul3, Int.toNat_natCast]
      | (with_reducible (first | apply cd_split | apply gd_split)) <;> (intro hc; (try simp only [hcn] at hc); (try simp only [hc]); (try simp only [hcl] at hc); try omega))
    refine AP.buf (vs := ((botU K (p + 1)).take p).flatMap entC) (cnt := ((botU K (p + 1)).take p).length) (Buf.nil _ _ _) (new_ss uh1 entC_len (by omega)) hfg4 (by omega) fa (allOne_entM _) (by rw [fa]; simp; omega) fun u5 g5 b5 t5 ho5 tp5 => ?_
    have t5 : Stay nowhere g4 g5 := t5.mono fun q _ hq => by obtain ⟨_, _, _, _, _, e⟩ := hq; cases e
    have hfg5 := t5.fl hfg4
    have ul5 := ul1.grow t5
    repeat' (first
      | refine St.h ?_
      | simp (disch := first | omega | (simp only [lnv]; omega)) only [wlk, ↓get_put', ↓reduceIte, seval, c2, c8, c13, hp1, ul3]
      | (with_reducible (first | apply cd_split | apply gd_split)) <;> (intro hc; (try simp only [hcn] at hc); (try simp only [hc]); (try simp only [hcl] at hc); try omega))
    refine AP.buf (vs := ((botU K (p + 1)).drop (p + 1)).flatMap entC) (cnt := ((botU K (p + 1)).drop (p + 1)).length) b5 (new_ss ul5 entC_len (by omega)) hfg5 (by omega) fb (allOne_entM _) (by rw [fb]; simp [fa]; omega) fun u6 g6 b6 t6 ho6 tp6 => ?_
    have t6 : Stay nowhere g4 g6 := t5.past' t6 fun q hq => by
      rcases ho5 q hq with ⟨_, _, _, _, _, e⟩ | h
      · cases e
      · exact h
    have e6 : [] ++ ((botU K (p + 1)).take p).flatMap entC ++ ((botU K (p + 1)).drop (p + 1)).flatMap entC = (botU K p).flatMap entC := by rw [List.nil_append, ← List.flatMap_append, ← hk]
    rw [e6] at b6
    repeat' (first
      | refine St.h ?_
      | simp (disch := first | omega | (simp only [lnv]; omega)) only [wlk, ↓get_put', ↓reduceIte, seval, c2, c8, c13]
      | (with_reducible (first | apply cd_split | apply gd_split)) <;> (intro hc; (try simp only [hcn] at hc); (try simp only [hc]); (try simp only [hcl] at hc); try omega))
    refine lp_next hI4 p (by omega) ⟨p, u6, rfl, by omega, by simp (disch := first | omega | (simp only [lnv]; omega)) only [wlk, ↓get_put', ↓reduceIte, seval, c2], by simp (disch := first | omega | (simp only [lnv]; omega)) only [wlk, ↓get_put', ↓reduceIte, seval], by simp (disch := first | omega | (simp only [lnv]; omega)) only [wlk, ↓get_put', ↓reduceIte, seval, c13], st4.trans t6, Ss.buf b6 rfl entC_len (by omega), swn_bufE b6, fun _ => rfl⟩
end Go.Proofs.Ytnjgoggnhdpnoaa

set_option linter.all false
namespace Go.Proofs.Ytnjgoggnhdpnoaa
open Go Go.Ev
theorem addE_mem {A : List Ent} {x a : Ent} : a ∈ addE A x ↔ a ∈ A ∨ (a = x ∧ hasE A x = false) := by
  cases h : hasE A x with
  | true => rw [addE_has h]; simp
  | false => rw [addE_new h, insE_mem]; simp [or_comm]
theorem hasE_add {A : List Ent} {x y : Ent} (h : ¬ (x.key = y.key ∧ x.seq = y.seq)) : hasE (addE A x) y = hasE A y := by
  rw [Bool.eq_iff_iff, hasE_mem, hasE_mem]
  constructor
  · rintro ⟨a, h1, h2⟩
    rcases addE_mem.1 h1 with e | ⟨rfl, _⟩
    · exact ⟨a, e, h2⟩
    · exact absurd h2 h
  · rintro ⟨a, h1, h2⟩
    exact ⟨a, addE_mem.2 (.inl h1), h2⟩
theorem addE_comm {A : List Ent} {x y : Ent} (hs : sortedE A = true) (h : ¬ (x.key = y.key ∧ x.seq = y.seq)) : addE (addE A x) y = addE (addE A y) x := by
  refine sorted_ext (addE_sorted (addE_sorted hs)) (addE_sorted (addE_sorted hs)) fun a => ?_
  rw [addE_mem, addE_mem, addE_mem, addE_mem, hasE_add h, hasE_add fun e => h ⟨e.1.symm, e.2.symm⟩]
  constructor
  · rintro ((h1 | h1) | h1)
    · exact .inl (.inl h1)
    · exact .inr h1
    · exact .inl (.inr h1)
  · rintro ((h1 | h1) | h1)
    · exact .inl (.inl h1)
    · exact .inr h1
    · exact .inl (.inr h1)
theorem hasE_cons {S : List Ent} {s y : Ent} (h : hasE (s :: S) y = false) : ¬ (s.key = y.key ∧ s.seq = y.seq) ∧ hasE S y = false := by
  unfold hasE at h ⊢
  rw [List.any_cons, Bool.or_eq_false_iff] at h
  exact ⟨of_decide_eq_false h.1, h.2⟩
theorem addsE_comm {S : List Ent} : ∀ {A : List Ent} {y : Ent}, sortedE A = true → hasE S y = false → addsE (addE A y) S = addE (addsE A S) y := by
  induction S with
  | nil => intro A y _ _; rfl
  | cons s S ih =>
    intro A y hs h
    obtain ⟨h1, h2⟩ := hasE_cons h
    show addsE (addE (addE A y) s) S = addE (addsE (addE A s) S) y
    rw [← addE_comm hs h1, ih (addE_sorted hs) h2]
theorem addsE_ins {S : List Ent} : ∀ {A : List Ent} {y : Ent}, sortedE A = true → hasE S y = false → addsE A (insE y S) = addE (addsE A S) y := by
  induction S with
  | nil => intro A y _ _; rfl
  | cons s S ih =>
    intro A y hs h
    unfold insE
    split
    · exact addsE_comm hs h
    · exact ih (A := addE A s) (addE_sorted hs) (hasE_cons h).2
/-- put together by parts -/
theorem addsE_adds {A M : List Ent} (hs : sortedE A = true) : addsE A (addsE [] M) = addsE A M := by
  have go : ∀ k, k ≤ M.length → addsE A (addsE [] (M.take k)) = addsE A (M.take k) := by
    intro k
    induction k with
    | zero => intro _; rfl
    | succ k ih =>
      intro hk
      have ih := ih (by omega)
      rw [take_ent (by omega), addsE_snoc, addsE_snoc]
      generalize M.take k = T at *
      generalize M.getD k default = y at *
      cases hh : hasE (addsE [] T) y with
      | true =>
        rw [addE_has hh, ih]
        obtain ⟨a, a1, a2⟩ := hasE_mem.1 hh
        have ha : a ∈ T := (addsE_from a1).resolve_left (by simp)
        obtain ⟨b, b1, b2, b3⟩ := addsE_has (L := A) ha
        rw [addE_has (hasE_mem.2 ⟨b, b1, b2.trans a2.1, b3.trans a2.2⟩)]
      | false => rw [addE_new hh, addsE_ins hs hh, ih]
  have := go M.length (Nat.le_refl _)
  rwa [List.take_length] at this
theorem rows_halves {R : List (List Ent)} (k : Nat) : addsE (addsE [] (R.take k).flatten) (addsE [] (R.drop k).flatten) = addsE [] R.flatten := by
  rw [addsE_adds (addsE_sorted (L := []) rfl), ← addsE_app, ← List.flatten_append, List.take_append_drop]
theorem rows_one {r : List Ent} (h : sortedE r = true) : addsE [] [r].flatten = r := by
  rw [List.flatten_cons, List.flatten_nil, List.append_nil]
  exact addsE_row h (fun _ h => h) (fun _ h => h)
/-- what is less than all that is left goes between -/
theorem jn_new {J C : List Ent} {e : Ent} (hJ : ∀ a ∈ J, lessE a e = true) (hC : sortedE C = true) (h : C = [] ∨ lessE e (C.getD 0 default) = true) : addE (J ++ C) e = J ++ e :: C := by
  have hle : ∀ c ∈ C, lessE e c = true := fun c hc => by
    obtain ⟨i, hi, rfl⟩ := mem_getD hc
    rcases h with h | h
    · rw [h] at hc; cases hc
    · by_cases e0 : i = 0
      · rw [e0]; exact h
      · exact lessE_trans h (pw_at hC (by omega) hi)
  have hno : hasE (J ++ C) e = false := by
    cases hh : hasE (J ++ C) e with
    | false => rfl
    | true =>
      obtain ⟨a, a1, a2, a3⟩ := hasE_mem.1 hh
      rcases List.mem_append.1 a1 with m | m
      · have := less_same (hJ a m) a2; omega
      · have := less_same (hle a m) a2.symm; omega
  rw [addE_new hno, insE_none (fun a ha => lessE_asym (hJ a ha))]
  cases C with
  | nil => rfl
  | cons c C =>
    have := hle c (by simp)
    show J ++ (if lessE e c then _ else _) = _
    rw [this]; rfl
theorem jn_same {J C : List Ent} {c e : Ent} (h1 : lessE e c = false) (h2 : lessE c e = false) : addE (J ++ c :: C) e = J ++ c :: C := by
  refine addE_has (hasE_mem.2 ⟨c, by simp, ?_⟩)
  refine Classical.byContradiction fun h => ?_
  rcases lessE_tot h with h | h
  · rw [h2] at h; cases h
  · rw [h1] at h; cases h
/-- c is not behind e, e is ahead of f: so is c -/
theorem le_less {c e f : Ent} (h : lessE e c = false) (h2 : lessE e f = true) : lessE c f = true := by
  by_cases hid : c.key = e.key ∧ c.seq = e.seq
  · by_cases hk : e.key = f.key
    · exact less_of (hid.1.trans hk) (by have := less_same h2 hk; omega)
    · rw [lessE_ne hk] at h2
      rw [lessE_ne (by rw [hid.1]; exact hk), hid.1]; exact h2
  · rcases lessE_tot hid with h3 | h3
    · exact lessE_trans h3 h2
    · rw [h] at h3; cases h3
structure Grp (L : List Ent) (R : List (List Ent)) : Prop where
  flat : R.flatten = L
  same : ∀ g ∈ R, ∀ a ∈ g, ∀ b ∈ g, a.key = b.key
  pw : R.Pairwise fun g k => ∀ a ∈ g, ∀ b ∈ k, a.key ≠ b.key
theorem Grp.newer {L : List Ent} {R : List (List Ent)} (G : Grp L R) {g : List Ent} (hg : g ∈ R) {e : Ent} (he : e ∈ g) (s : Int) : newer L e s = newer g e s := by
  rw [Bool.eq_iff_iff, newer_iff, newer_iff]
  constructor
  · rintro ⟨a, h1, h2, h3⟩
    rw [← G.flat, List.mem_flatten] at h1
    obtain ⟨k, hk, hak⟩ := h1
    by_cases e1 : a ∈ g
    · exact ⟨a, e1, h2, h3⟩
    · exfalso
      have hpw := G.pw
      rw [List.pairwise_iff_getElem] at hpw
      obtain ⟨i, hi, rfl⟩ := List.getElem_of_mem hg
      obtain ⟨j, hj, rfl⟩ := List.getElem_of_mem hk
      rcases Nat.lt_trichotomy i j with h | h | h
      · exact hpw i j hi hj h e he a hak h2.symm
      · subst h; exact e1 hak
      · exact hpw j i hj hi h a hak e he h2
  · rintro ⟨a, h1, h2⟩
    exact ⟨a, by rw [← G.flat, List.mem_flatten]; exact ⟨g, hg, h1⟩, h2⟩
theorem Grp.sub {L : List Ent} {R : List (List Ent)} (G : Grp L R) {g : List Ent} (hg : g ∈ R) : g.Sublist L := by rw [← G.flat]; exact List.sublist_flatten_of_mem hg
theorem flatMap_filter {R : List (List Ent)} {q : Ent → Bool} {p : List Ent → Ent → Bool} (h : ∀ g ∈ R, ∀ e ∈ g, q e = p g e) : R.flatten.filter q = R.flatMap fun g => g.filter (p g) := by
  induction R with
  | nil => rfl
  | cons g R ih =>
    rw [List.flatten_cons, List.filter_append, List.flatMap_cons, ih fun k hk => h k (List.mem_cons_of_mem _ hk)]
    congr 1
    exact List.filter_congr fun e he => h g (by simp) e he
theorem Grp.vis {L : List Ent} {R : List (List Ent)} (G : Grp L R) (s : Int) : L.filter (visP L s) = R.flatMap fun g => g.filter (visP g s) := by
  have := flatMap_filter (R := R) (q := visP L s) (p := fun g => visP g s) fun g hg e he => by unfold visP; rw [G.newer hg he]
  rw [G.flat] at this; exact this
theorem Grp.want {L : List Ent} {R : List (List Ent)} (G : Grp L R) (S : List Int) : L.filter (wantP L S) = R.flatMap fun g => g.filter (wantP g S) := by
  have := flatMap_filter (R := R) (q := wantP L S) (p := fun g => wantP g S) fun g hg e he => by
    unfold wantP; congr 1; funext n; rw [G.newer hg he]
  rw [G.flat] at this; exact this
/-- without the deleted ones at the end -/
def stripE : List Ent → List Ent
  | [] => []
  | x :: K => if x.del = true ∧ stripE K = [] then [] else x :: stripE K
theorem stripE_sub : ∀ K : List Ent, (stripE K).Sublist K
  | [] => List.Sublist.slnil
  | x :: K => by
    show (if _ then _ else _ : List Ent).Sublist _
    split
    · exact List.nil_sublist _
    · exact (stripE_sub K).cons_cons x
theorem stripE_del {x : Ent} (hx : x.del = true) : ∀ K : List Ent, stripE (K ++ [x]) = stripE K
  | [] => by show (if _ then _ else _ : List Ent) = _; rw [if_pos ⟨hx, rfl⟩]; rfl
  | y :: K => by show (if y.del = true ∧ stripE (K ++ [x]) = [] then _ else y :: stripE (K ++ [x])) = _; rw [stripE_del hx K]; rfl
theorem stripE_put {x : Ent} (hx : x.del = false) : ∀ K : List Ent, stripE (K ++ [x]) = K ++ [x]
  | [] => by show (if x.del = true ∧ _ then _ else _ : List Ent) = _; rw [if_neg (by rw [hx]; rintro ⟨h, _⟩; cases h)]; rfl
  | y :: K => by show (if y.del = true ∧ stripE (K ++ [x]) = [] then _ else y :: stripE (K ++ [x])) = _; rw [stripE_put hx K, if_neg (by rintro ⟨_, h⟩; simp at h)]; rfl
theorem bot_app {C : List Ent} : ∀ {K : List Ent}, (∀ a ∈ K, ∀ b ∈ K, a.key = b.key) → (∀ a ∈ K, ∀ b ∈ C, a.key ≠ b.key) → botE (K ++ C) = stripE K ++ botE C
  | [], _, _ => rfl
  | x :: K, h1, h2 => by
    have ih := bot_app (C := C) (K := K) (fun a ha b hb => h1 a (List.mem_cons_of_mem _ ha) b (List.mem_cons_of_mem _ hb)) fun a ha b hb => h2 a (List.mem_cons_of_mem _ ha) b hb
    show (if x.del = true ∧ (botE (K ++ C) = [] ∨ ((botE (K ++ C)).getD 0 default).key ≠ x.key) then botE (K ++ C) else x :: botE (K ++ C)) = (if x.del = true ∧ stripE K = [] then [] else x :: stripE K) ++ botE C
    rw [ih]
    cases hk : stripE K with
    | nil =>
      rw [List.nil_append]
      have hc : botE C = [] ∨ ((botE C).getD 0 default).key ≠ x.key := by
        cases hC : botE C with
        | nil => exact .inl rfl
        | cons c B =>
          refine .inr fun e => h2 x (by simp) c ((botE_sub C).subset (by rw [hC]; simp)) ?_
          exact e.symm
      by_cases hd : x.del = true
      · rw [if_pos ⟨hd, hc⟩, if_pos ⟨hd, rfl⟩]; rfl
      · rw [if_neg (fun h => hd h.1), if_neg (fun h => hd h.1)]; rfl
    | cons c B =>
      have hc : c ∈ K := (stripE_sub K).subset (by rw [hk]; simp)
      have hcx : c.key = x.key := h1 c (List.mem_cons_of_mem _ hc) x (by simp)
      rw [if_neg, if_neg (by rintro ⟨_, h⟩; cases h)]
      · rfl
      · rintro ⟨_, h | h⟩
        · cases h
        · exact h hcx
theorem bot_groups {w : List Ent → Ent → Bool} : ∀ {R : List (List Ent)}, (∀ g ∈ R, ∀ a ∈ g, ∀ b ∈ g, a.key = b.key) → R.Pairwise (fun g k => ∀ a ∈ g, ∀ b ∈ k, a.key ≠ b.key) → botE (R.flatMap fun g => g.filter (w g)) = R.flatMap fun g => stripE (g.filter (w g))
  | [], _, _ => rfl
  | g :: R, h1, h2 => by
    rw [List.pairwise_cons] at h2
    rw [List.flatMap_cons, List.flatMap_cons, bot_app, bot_groups (fun k hk => h1 k (List.mem_cons_of_mem _ hk)) h2.2]
    · exact fun a ha b hb => h1 g (by simp) a (List.mem_filter.1 ha).1 b (List.mem_filter.1 hb).1
    · intro a ha b hb
      rw [List.mem_flatMap] at hb
      obtain ⟨k, hk, hb⟩ := hb
      exact h2.1 k hk a (List.mem_filter.1 ha).1 b (List.mem_filter.1 hb).1
/-- what is kept of one row -/
def keepG (S : List Int) (b : Bool) (g : List Ent) : List Ent := if b then stripE (g.filter (wantP g S)) else g.filter (wantP g S)
theorem Grp.pack {L : List Ent} {R : List (List Ent)} (G : Grp L R) {S : List Int} {b : Bool} (ha : L.all isE = true) (hs : sortedE L = true) : packE L S b = R.flatMap (keepG S b) := by
  rw [packE_ok ha hs, G.want]
  cases b with
  | true => rw [if_pos rfl, bot_groups G.same G.pw]; rfl
  | false => rfl
theorem keepG_sub {S : List Int} {b : Bool} {g : List Ent} : (keepG S b g).Sublist g := by
  unfold keepG
  split
  · exact (stripE_sub _).trans List.filter_sublist
  · exact List.filter_sublist
def SrtI (S : List Int) : Prop := ∀ i j, i ≤ j → j < S.length → S.getD i 0 ≤ S.getD j 0
/-- the least look that is not below: it is below the newer one -/
theorem want_look {g : List Ent} {S T : List Int} {i k : Nat} (ha : g.all isE = true) (hs : sortedE g = true) (hk : ∀ a ∈ g, ∀ b ∈ g, a.key = b.key) (hi : i < g.length) (h0 : 0 < i) (hT : SrtI T) (hm : ∀ n, n ∈ T ↔ n ∈ S ∨ n = 1000000)
    (k1 : k < T.length) (k2 : 0 < k → T.getD (k - 1) 0 < (g.getD i default).seq) (k3 : (g.getD i default).seq ≤ T.getD k 0) :
    wantP g S (g.getD i default) = decide (T.getD k 0 < (g.getD (i - 1) default).seq) := by
  have hkk := hk _ (getD_memE (i := i - 1) (by omega)) _ (getD_memE hi)
  have hq := (isE_iff.1 (List.all_eq_true.1 ha _ (getD_memE (i := i - 1) (by omega)))).1
  have memT : ∀ j, j < T.length → T.getD j 0 ∈ T := fun j hj => by rw [List.getD_eq_getElem?_getD, List.getElem?_eq_getElem hj]; simp
  rw [want_nw ha hs hi]
  have hn : nwE g i = (g.getD (i - 1) default).seq := if_pos ⟨h0, hkk⟩
  rw [hn, decide_eq_false (p := 1000000 < (g.getD (i - 1) default).seq) (by omega), Bool.false_or, Bool.eq_iff_iff, List.any_eq_true, decide_eq_true_eq]
  constructor
  · rintro ⟨n, n1, n2⟩
    rw [Bool.and_eq_true, decide_eq_true_eq, decide_eq_true_eq] at n2
    obtain ⟨j, hj, e⟩ := List.getElem_of_mem ((hm n).2 (.inl n1))
    have e : T.getD j 0 = n := by rw [List.getD_eq_getElem?_getD, List.getElem?_eq_getElem hj]; simpa using e
    have hjk : k ≤ j := by
      refine Classical.byContradiction fun hh => ?_
      have h1 := k2 (by omega)
      have h2 := hT j (k - 1) (by omega) (by omega)
      omega
    have := hT k j hjk hj
    omega
  · intro h
    rcases (hm _).1 (memT k k1) with h1 | h1
    · exact ⟨_, h1, by rw [Bool.and_eq_true, decide_eq_true_eq, decide_eq_true_eq]; exact ⟨k3, h⟩⟩
    · omega
theorem want_first {g : List Ent} {S : List Int} (ha : g.all isE = true) (hs : sortedE g = true) (hi : 0 < g.length) : wantP g S (g.getD 0 default) = true := by
  rw [want_nw ha hs hi]
  have hn : nwE g 0 = 1000001 := if_neg (by omega)
  rw [hn]; rfl
end Go.Proofs.Ytnjgoggnhdpnoaa

set_option linter.all false
namespace Go.Ev
open Go
/-- less of a block's cells -/
theorem Own.pre {h : H} {id : B} {xs ys : List V} (o : Own h id (xs ++ ys)) : Own h id xs := by
  obtain ⟨blk, h1, h2, h3, h4, h5, h6, h7⟩ := o
  refine ⟨blk, h1, h2, h3, h4, h5, h6, fun i y hy => h7 i y ?_⟩
  have hi := (List.getElem?_eq_some_iff.1 hy).1
  rw [List.getElem?_append_left hi]; exact hy
theorem Own.none {h : H} {id : B} {xs : List V} (o : Own h id xs) : Own h id [] := Own.pre (xs := []) (ys := xs) o
/-- cells stored behind those that are known -/
theorem store_end {h : H} {id : B} {xs vs : List V} {fin : Nat} (o : Own h id xs) (hj : xs.length + vs.length ≤ fin) (hfit : fin < 2 ^ 37) (h1 : allOne vs = true) : ∃ h', (∀ k, store h id 0 xs.length fin vs k = k h') ∧ Own h' id (xs ++ vs) ∧ Stay (fun i => i = id) h h' := by
  obtain ⟨blk, a1, a2, a3, a4, a5, a6, a7⟩ := o
  obtain ⟨next, floor, heap⟩ := h
  obtain ⟨cur, min, sz, cells, bel, fr⟩ := blk
  simp only at a2 a3 a4 a7
  subst a2; subst a3; subst a4
  obtain ⟨tr, t1, t2, t3⟩ := setList_fine vs xs.length cells (by omega)
  obtain ⟨hp, s1, s2, s3⟩ := setK_ok id (⟨0, 0, sz, tr, bel, 0⟩ : Blk) heap
  have e1 : B.geB floor id = true := by cases floor <;> first | rfl | (show Nat.ble _ _ = true; rw [Nat.ble_eq]; exact a5)
  have e2 : Nat.ble (Nat.add xs.length vs.length) fin = true := by rw [Nat.ble_eq]; exact hj
  have e4 : frOk 0 xs.length = true := rfl
  have e5 : Nat.beq 0 0 = true := rfl
  have e6 : Nat.ble 0 0 = true := rfl
  have a1' : heap.get id = some ⟨0, 0, sz, cells, bel, 0⟩ := a1
  refine ⟨⟨next, floor, hp⟩, fun k => ?_, ⟨_, s2, rfl, rfl, rfl, a5, a6, fun i z hz => ?_⟩, ⟨rfl, Nat.le_refl _, fun i _ hi => s3 i hi⟩⟩
  · simp only [store, hK_mk, a1', optK_some, blkK_mk, e5, e6, e1, e2, h1, e4, ifK_true]
    rw [t1, s1]
  · show tr.getN i = some z
    by_cases hi : i < xs.length
    · rw [List.getElem?_append_left hi] at hz
      rw [t3 i (by omega)]; exact a7 i z hz
    · rw [List.getElem?_append_right (by omega)] at hz
      have := t2 _ z hz
      rwa [show xs.length + (i - xs.length) = i by omega] at this
section
variable {P : Program} {h : H} {N : Nx} {id : B} {el size cnt len c : Nat} {x : V} {xs vs : List V}
/-- in place: there is room -/
theorem AP.made (o : Own h id xs) (hlen : xs.length = len * size) (hx : ∀ k : Nat → List V → Bool, newCells size x h k = k cnt vs) (hn : vs.length = cnt * size) (h1 : allOne vs = true) (hc : len + cnt ≤ c) (hfit : c * size < 2 ^ 37) (hcb : c < 18446744073709551616)
    (k : ∀ h', Own h' id (xs ++ vs) → Stay (fun i => i = id) h h' → N.go P (.l id 0 0 (len + cnt) (c * size) (some c)) h') : AP P el size (.l id 0 0 len (c * size) (some c)) x h N := by
  have hle : Nat.ble (Nat.add len cnt) c = true := by rw [Nat.ble_eq]; exact hc
  have hmul := Nat.mul_le_mul_right size hc
  rw [Nat.add_mul] at hmul
  cases cnt with
  | zero =>
    have hv : vs = [] := List.eq_nil_of_length_eq_zero (by rw [hn, Nat.zero_mul])
    subst hv
    refine hm_of (v := .l id 0 0 (len + 0) (c * size) (some c)) (h' := h) (fun q => ?_) (k h (by rw [List.append_nil]; exact o) ⟨rfl, Nat.le_refl _, fun _ _ _ => rfl⟩)
    rw [hx]
    show boolK (flagB c) _ (fun _ => boolK (Nat.ble (Nat.add len 0) c) (fun _ => appIn id 0 0 len (c * size) c size 0 [] h q) _) = _
    rw [flagB_of hcb, boolK_false, hle]; rfl
  | succ m =>
    obtain ⟨h', a1, a2, a3⟩ := store_end o (vs := vs) (fin := c * size) (by omega) hfit h1
    refine hm_of (v := .l id 0 0 (len + (m + 1)) (c * size) (some c)) (h' := h') (fun q => ?_) (k h' a2 a3)
    rw [hx]
    show boolK (flagB c) _ (fun _ => boolK (Nat.ble (Nat.add len (m + 1)) c) (fun _ => appIn id 0 0 len (c * size) c size (m + 1) vs h q) _) = _
    rw [flagB_of hcb, boolK_false, hle]
    show store h id 0 (Nat.add 0 (Nat.mul len size)) (c * size) vs (fun h => fN (Nat.add len (m + 1)) fun l' => q (.l id 0 0 l' (c * size) (some c)) h) = _
    rw [show Nat.add 0 (Nat.mul len size) = xs.length by rw [hlen]; show 0 + len * size = _; omega, a1, fN_eq]
    rfl
/-- append(S{}, s...): a new block, or the empty one -/
theorem AP.e1 {g off fin : Nat} (hx : ∀ k : Nat → List V → Bool, newCells size x h k = k cnt vs) (hf : B.val h.floor ≤ B.val h.next) (hn : vs.length = cnt * size) (hl : cnt ≤ 1048576) (hl2 : vs.length < 2 ^ 38)
    (k0 : cnt = 0 → N.go P (.l id g off 0 fin (some 0)) h)
    (k : ∀ h', 1 ≤ cnt → Stay nowhere h h' → B.val h'.next = B.val h.next + 1 → Buf h' el size (.l h.next 0 0 cnt vs.length none) vs → Top h' (.l h.next 0 0 cnt vs.length none) → N.go P (.l h.next 0 0 cnt vs.length none) h') : AP P el size (.l id g off 0 fin (some 0)) x h N := by
  cases cnt with
  | zero =>
    have hv : vs = [] := List.eq_nil_of_length_eq_zero (by rw [hn, Nat.zero_mul])
    subst hv
    exact hm_of (v := .l id g off 0 fin (some 0)) (h' := h) (fun q => by rw [hx]; rfl) (k0 rfl)
  | succ m =>
  obtain ⟨h', a1, a2, a3, blk, b1, b2, b3, b4, b5, b6, b7⟩ := alloc_new el vs h hl2
  have hble : Nat.ble (Nat.add 0 (m + 1)) 1048576 = true := by rw [Nat.ble_eq]; show 0 + (m + 1) ≤ _; omega
  have hno : Nat.ble (Nat.add 0 (m + 1)) 0 = false := by
    cases hx : Nat.ble (Nat.add 0 (m + 1)) 0 with
    | false => rfl
    | true => have := Nat.le_of_ble_eq_true hx; have h2 : 0 + (m + 1) ≤ 0 := this; omega
  refine hm_of (v := .l h.next 0 0 (m + 1) vs.length none) (h' := h') (fun q => ?_) (k h' (by omega) a2 a3 (.inr ⟨h.next, 0, m + 1, blk, rfl, by omega, hn, by rw [a2.floor]; exact hf, by omega, b1, ⟨by omega, by omega⟩, b4, b5, b6, b7⟩) ?_)
  · rw [hx]
    show boolK (flagB 0) (fun _ => appGrow (selB (Nat.ble 1 0) (Nat.beq size 1)) el id g off 0 fin size (m + 1) vs h q) (fun _ => boolK (Nat.ble (Nat.add 0 (m + 1)) 0) (fun _ => appIn id g off 0 fin 0 size (m + 1) vs h q) fun _ => appOut el id g off 0 fin size (m + 1) vs h q) = _
    rw [flagB_of (by omega), boolK_false, hno, boolK_false]
    unfold appOut
    rw [hble, ifK_true]
    show alloc el (app [] vs) h (fun id h => fN (Nat.add 0 (m + 1)) fun l' => fN (Nat.mul l' size) fun fin' => q (.l id 0 0 l' fin' none) h) = _
    rw [app_eq, List.nil_append, a1, fN_eq, fN_eq]
    show q (.l h.next 0 0 (0 + (m + 1)) ((0 + (m + 1)) * size) none) h' = _
    rw [Nat.zero_add, ← hn]
  · intro id' g off n fin cap e
    cases e
    exact ⟨blk, b1, b3⟩
/-- a row of one cell each, appended -/
theorem new_lst {v : V} (a : Lst h v vs) (k : Nat → List V → Bool) : newCells 1 v h k = k vs.length vs := by
  rcases a with ⟨rfl, rfl⟩ | ⟨id, g, off, fin, cap, rfl, h2, h3, r⟩
  · rfl
  · cases hm : vs.length with
    | zero =>
      have : vs = [] := List.eq_nil_of_length_eq_zero hm
      subst this; rfl
    | succ m =>
      rw [hm] at h2
      show loadN h id g off fin (Nat.mul (m + 1) 1) (fun vs => k (m + 1) vs) = _
      rw [show Nat.mul (m + 1) 1 = vs.length by rw [hm]; exact Nat.mul_one _, loadN_row r rfl (by intro e; rw [e] at hm; simp at hm) (by omega)]
end
end Go.Ev

set_option maxRecDepth 100000
set_option maxHeartbeats 8000000
set_option linter.all false
namespace Go.Proofs.Ytnjgoggnhdpnoaa
open Go Go.Ev
theorem cnan_ok {h : H} {x : Int} : FnOk Try.prog 59 [.i .i64 x] h fun y h' => y = .b false ∧ h' = h := by
  refine fn_go c59 (by intro hb; cases hb) (by simp) (by simp) fun Q hQ => ?_
  simp only [slotsF, Nat.reduceAdd]
  repeat' (first
    | refine St.h ?_
    | simp (disch := first | omega | (simp only [lnv]; omega)) only [wlk, ↓get_put', ↓reduceIte, seval]
    | (with_reducible (first | apply cd_split | apply gd_split)) <;> (intro hc; (try simp only [hcn] at hc); (try simp only [hc]); (try simp only [hcl] at hc); try omega))
  subst hQ
  exact ⟨rfl, rfl⟩
theorem snan_ok {h : H} {x : Int} : FnOk Try.prog 53 [.i .i64 x] h fun y h' => y = .b false ∧ h' = h := by
  refine fn_go c53 (by intro hb; cases hb) (by simp) (by simp) fun Q hQ => ?_
  simp only [slotsF, Nat.reduceAdd]
  repeat' (first
    | refine St.h ?_
    | simp (disch := first | omega | (simp only [lnv]; omega)) only [wlk, ↓get_put', ↓reduceIte, seval]
    | (with_reducible (first | apply cd_split | apply gd_split)) <;> (intro hc; (try simp only [hcn] at hc); (try simp only [hc]); (try simp only [hcl] at hc); try omega))
  subst hQ
  exact ⟨rfl, rfl⟩
theorem cless_ok {h : H} {a b : Int} : FnOk Try.prog 48 [.i .i64 a, .i .i64 b] h fun y h' => y = .b (decide (a < b)) ∧ h' = h := by
  refine fn_go c48 (by intro hb; cases hb) (by simp) (by simp) fun Q hQ => ?_
  simp only [slotsF, Nat.reduceAdd]
  repeat' (first
    | refine St.h ?_
    | simp (disch := first | omega | (simp only [lnv]; omega)) only [wlk, ↓get_put', ↓reduceIte, seval]
    | (with_reducible (first | apply cd_split | apply gd_split)) <;> (intro hc; (try simp only [hcn] at hc); (try simp only [hc]); (try simp only [hcl] at hc); try omega))
  refine CL.pure cnan_ok ?_
  repeat' (first
    | refine St.h ?_
    | simp (disch := first | omega | (simp only [lnv]; omega)) only [wlk, ↓get_put', ↓reduceIte, seval]
    | (with_reducible (first | apply cd_split | apply gd_split)) <;> (intro hc; (try simp only [hcn] at hc); (try simp only [hc]); (try simp only [hcl] at hc); try omega))
  all_goals
    subst hQ
    refine ⟨?_, rfl⟩
    first | rfl | (congr 1; first | exact (decide_eq_true (by omega)).symm | exact (decide_eq_false (by omega)).symm)
/-- a row of ints that is written in place -/
def rI (f : Nat → Int) (n : Nat) : List V := (List.range n).map fun j => .i .i64 (f j)
theorem rI_len {f : Nat → Int} {n : Nat} : (rI f n).length = n := by simp [rI]
theorem rI_getD {f : Nat → Int} {n i : Nat} (hi : i < n) : (rI f n).getD i .u = .i .i64 (f i) := by simp [rI, List.getD, hi]
theorem rI_set {f : Nat → Int} {n j : Nat} {x : Int} : (rI f n).set j (.i .i64 x) = rI (fun k => if k = j then x else f k) n := by
  refine List.ext_getElem (by simp [rI]) fun i h1 h2 => ?_
  simp only [rI, List.getElem_set, List.getElem_map, List.getElem_range]
  by_cases e : j = i
  · subst e; simp
  · rw [if_neg (Ne.symm e)]; simp [e]
theorem rI_of (xs : List Int) : xs.map (V.i .i64) = rI (fun j => xs.getD j 0) xs.length := by
  refine List.ext_getElem (by simp [rI]) fun i h1 h2 => ?_
  have : i < xs.length := by simpa using h1
  simp [rI, List.getD, this]
theorem rI_to (f : Nat → Int) (n : Nat) : rI f n = ((List.range n).map f).map (V.i .i64) := by simp [rI]
section
variable {P : Program} {h h0 : H} {N : Nx} {v : V} {f : Nat → Int} {n i : Nat}
theorem rI_ln (a : Lst h0 v (rI f n)) : H1 P gLen v h N = N.go P (.i .i64 (n : Int)) h := by rw [Lst.ln a, rI_len]
theorem rI_ix (a : Lst h0 v (rI f n)) (hi : i < n) : IX P 1 v i h N = N.go P (.p (lid v) (lg v) (loff v + i) (lfin v)) h := Lst.ix a (by rw [rI_len]; exact hi)
theorem rI_ld (a : Lst h v (rI f n)) (hi : i < n) : L1 P (lid v) (lg v) (loff v + i) (lfin v) h N = N.go P (.i .i64 (f i)) h := by
  rw [Lst.ld a (by rw [rI_len]; exact hi), rI_getD hi]
end
def swp (f : Nat → Int) (j : Nat) : Nat → Int := fun k => if k = j - 1 then f j else if k = j then f (j - 1) else f k
theorem swp_mem {f : Nat → Int} {j n : Nat} (h0 : 0 < j) (hj : j < n) (x : Int) : (∃ i, i < n ∧ swp f j i = x) ↔ ∃ i, i < n ∧ f i = x := by
  constructor
  · rintro ⟨i, hi, e⟩
    unfold swp at e
    by_cases e1 : i = j - 1
    · rw [if_pos e1] at e; exact ⟨j, hj, e⟩
    · rw [if_neg e1] at e
      by_cases e2 : i = j
      · rw [if_pos e2] at e; exact ⟨j - 1, by omega, e⟩
      · rw [if_neg e2] at e; exact ⟨i, hi, e⟩
  · rintro ⟨i, hi, e⟩
    by_cases e1 : i = j
    · exact ⟨j - 1, by omega, by unfold swp; rw [if_pos rfl, ← e1]; exact e⟩
    · by_cases e2 : i = j - 1
      · exact ⟨j, hj, by unfold swp; rw [if_neg (by omega), if_pos rfl, ← e2]; exact e⟩
      · exact ⟨i, hi, by unfold swp; rw [if_neg e2, if_neg e1]; exact e⟩
/-- in order up to i, but for place j, which is not above those behind it -/
def Mid (f : Nat → Int) (i j : Nat) : Prop := (∀ p q, p < q → q ≤ i → p ≠ j → q ≠ j → f p ≤ f q) ∧ ∀ q, j < q → q ≤ i → f j ≤ f q
theorem mid_swp {f : Nat → Int} {i j : Nat} (M : Mid f i j) (h0 : 0 < j) (hj : j ≤ i) (hlt : f j < f (j - 1)) : Mid (swp f j) i (j - 1) := by
  have a1 : swp f j (j - 1) = f j := by unfold swp; rw [if_pos rfl]
  have a2 : swp f j j = f (j - 1) := by unfold swp; rw [if_neg (by omega), if_pos rfl]
  have a3 : ∀ k, k ≠ j - 1 → k ≠ j → swp f j k = f k := fun k h1 h2 => by unfold swp; rw [if_neg h1, if_neg h2]
  constructor
  · intro p q hpq hq hp1 hq1
    by_cases e1 : q = j
    · rw [e1, a2, a3 p hp1 (by omega)]
      exact M.1 p (j - 1) (by omega) (by omega) (by omega) (by omega)
    · rw [a3 q hq1 e1]
      by_cases e2 : p = j
      · rw [e2, a2]; exact M.1 (j - 1) q (by omega) hq (by omega) e1
      · rw [a3 p hp1 e2]; exact M.1 p q hpq hq e2 e1
  · intro q h1 h2
    rw [a1]
    by_cases e : q = j
    · rw [e, a2]; omega
    · rw [a3 q (by omega) e]; exact M.2 q (by omega) h2
theorem mid_done {f : Nat → Int} {i j : Nat} (M : Mid f i j) (hj : j ≤ i) (h : j = 0 ∨ f (j - 1) ≤ f j) : ∀ p q, p ≤ q → q < i + 1 → f p ≤ f q := by
  intro p q hpq hq
  by_cases e : p = q
  · rw [e]; exact Int.le_refl _
  · by_cases e1 : p = j
    · rw [e1]; exact M.2 q (by omega) (by omega)
    · by_cases e2 : q = j
      · rw [e2] at hpq ⊢
        have h := h.resolve_left (by omega)
        by_cases e3 : p = j - 1
        · rw [e3]; exact h
        · have := M.1 p (j - 1) (by omega) (by omega) e1 (by omega); omega
      · exact M.1 p q (by omega) (by omega) e1 e2
theorem isort_ok {h : H} {v : V} {xs : List Int} (hb : Buf h 3 1 v (xs.map (V.i .i64))) (tp : Top h v) (hl : xs.length ≤ 1000) (hw : ∀ n ∈ xs, -9223372036854775808 ≤ n ∧ n ≤ 9223372036854775807) (hf : B.val h.floor ≤ B.val h.next) : FnOk Try.prog 42 [v, .i .i64 0, .i .i64 (xs.length : Int)] h fun y h' =>
    ∃ ys : List Int, SrtI ys ∧ (∀ n, n ∈ ys ↔ n ∈ xs) ∧ ys.length = xs.length ∧ Buf h' 3 1 v (ys.map (V.i .i64)) ∧ Top h' v ∧ Stay (isOf v) h h' := by
  refine fn_go c42 (by intro hb; cases hb) (by simp) (by simp) fun Q hQ => ?_
  simp only [slotsF, Nat.reduceAdd]
  repeat' (first
    | refine St.h ?_
    | simp (disch := first | omega | (simp only [lnv]; omega)) only [wlk, ↓get_put', ↓reduceIte, seval]
    | (with_reducible (first | apply cd_split | apply gd_split)) <;> (intro hc; (try simp only [hcn] at hc); (try simp only [hc]); (try simp only [hcl] at hc); try omega))
  refine Ok.lp (fun m t g => ∃ (i : Nat) (f : Nat → Int), m = xs.length + 1 - i ∧ 1 ≤ i ∧ i ≤ xs.length + 1 ∧ get 0 t = v ∧ get 1 t = .i .i64 0 ∧ get 2 t = .i .i64 (xs.length : Int) ∧ get 6 t = .i .i64 (i : Int) ∧ (∀ p q, p ≤ q → q < i → f p ≤ f q) ∧ (∀ n, (∃ i, i < xs.length ∧ f i = n) ↔ n ∈ xs) ∧ Buf g 3 1 v (rI f xs.length) ∧ Top g v ∧ Stay (isOf v) h g) xs.length ?_ ?_
  · simp (disch := first | omega | (simp only [lnv]; omega)) only [wlk, ↓get_put', ↓reduceIte, seval]
    refine ⟨1, fun j => xs.getD j 0, by omega, by omega, by omega, ?_⟩
    refine ⟨?_, ?_, ?_, ?_, ?_, fun n => ?_, by rw [← rI_of]; exact hb, tp, ⟨rfl, Nat.le_refl _, fun _ _ _ => rfl⟩⟩
    rotate_right
    · constructor
      · rintro ⟨i, hi, e⟩
        rw [← e]; show xs.getD i 0 ∈ xs
        rw [List.getD_eq_getElem?_getD, List.getElem?_eq_getElem hi]; simp
      · intro hn
        obtain ⟨i, hi, e⟩ := List.getElem_of_mem hn
        exact ⟨i, hi, by show xs.getD i 0 = n; rw [List.getD_eq_getElem?_getD, List.getElem?_eq_getElem hi]; simpa using e⟩
    · trivial
    · trivial
    · trivial
    · rfl
    · intro p q h1 h2
      obtain rfl : p = q := by omega
      exact Int.le_refl _
  rintro I hI m t g ⟨i, f, rfl, hi1, hi2, f0, f1, f2, f6, hs, hmem, bf, tg, st⟩
  by_cases hil : i < xs.length
  case neg =>
    repeat' (first
      | refine St.h ?_
      | simp (disch := first | omega | (simp only [lnv]; omega)) only [wlk, ↓get_put', ↓reduceIte, seval, f0, f1, f2, f6]
      | (with_reducible (first | apply cd_split | apply gd_split)) <;> (intro hc; (try simp only [hcn] at hc); (try simp only [hc]); (try simp only [hcl] at hc); try omega))
    subst hQ
    refine ⟨(List.range xs.length).map f, fun a b h1 h2 => ?_, fun n => ?_, by simp, by rw [← rI_to]; exact bf, tg, st⟩
    · have h2 : b < xs.length := by simpa using h2
      have e1 : ((List.range xs.length).map f).getD a 0 = f a := by simp [List.getD, show a < xs.length by omega]
      have e2 : ((List.range xs.length).map f).getD b 0 = f b := by simp [List.getD, h2]
      rw [e1, e2]; exact hs a b h1 (by omega)
    · rw [← hmem n, List.mem_map]
      simp [List.mem_range]
  repeat' (first
    | refine St.h ?_
    | simp (disch := first | omega | (simp only [lnv]; omega)) only [wlk, ↓get_put', ↓reduceIte, seval, f0, f1, f2, f6]
    | (with_reducible (first | apply cd_split | apply gd_split)) <;> (intro hc; (try simp only [hcn] at hc); (try simp only [hc]); (try simp only [hcl] at hc); try omega))
  refine Ok.lp (fun m t g => ∃ (j : Nat) (f : Nat → Int), m = j ∧ j ≤ i ∧ get 0 t = v ∧ get 1 t = .i .i64 0 ∧ get 2 t = .i .i64 (xs.length : Int) ∧ get 6 t = .i .i64 (i : Int) ∧ get 7 t = .i .i64 (j : Int) ∧ Mid f i j ∧ (∀ n, (∃ i, i < xs.length ∧ f i = n) ↔ n ∈ xs) ∧ Buf g 3 1 v (rI f xs.length) ∧ Top g v ∧ Stay (isOf v) h g) i ?_ ?_
  · simp (disch := first | omega | (simp only [lnv]; omega)) only [wlk, ↓get_put', ↓reduceIte, seval, f0, f1, f2, f6]
    refine ⟨i, f, by omega, by omega, ?_⟩
    refine ⟨?_, ?_, ?_, ?_, ?_, ⟨fun p q h1 h2 h3 h4 => hs p q (by omega) (by omega), fun q h1 h2 => by omega⟩, hmem, bf, tg, st⟩
    all_goals first | trivial | rfl
  rintro I2 hI2 m2 t2 g2 ⟨j, f, rfl, hj, e0, e1, e2, e6, e7, hM, hmem, bf, tg, st⟩
  have hl2 := bf.lst
  have w1 : ((m2 : Int) - 1).toNat = m2 - 1 := by omega
  have done : (m2 = 0 ∨ f (m2 - 1) ≤ f m2) → ∀ t3 : F, get 0 t3 = v → get 1 t3 = .i .i64 0 → get 2 t3 = .i .i64 (xs.length : Int) → get 6 t3 = .i .i64 ((i + 1 : Nat) : Int) → LpG I (xs.length + 1 - i) t3 g2 := fun hd t3 x0 x1 x2 x6 => by
    exact lp_next hI (xs.length + 1 - (i + 1)) (by omega) ⟨i + 1, f, rfl, by omega, by omega, x0, x1, x2, x6, mid_done hM hj hd, hmem, bf, tg, st⟩
  repeat' (first
    | refine St.h ?_
    | simp (disch := first | omega | (simp only [lnv]; omega)) only [wlk, ↓get_put', ↓reduceIte, seval, e0, e1, e2, e6, e7, rI_ix hl2, rI_ld hl2, w1, Int.toNat_natCast]
    | (with_reducible (first | apply cd_split | apply gd_split)) <;> (intro hc; (try simp only [hcn] at hc); (try simp only [hc]); (try simp only [hcl] at hc); try omega))
  · refine CL.pure cless_ok ?_
    by_cases hlt : f m2 < f (m2 - 1)
    case neg =>
      rw [decide_eq_false hlt]
      repeat' (first
        | refine St.h ?_
        | simp (disch := first | omega | (simp only [lnv]; omega)) only [wlk, ↓get_put', ↓reduceIte, seval, e0, e1, e2, e6, e7]
        | (with_reducible (first | apply cd_split | apply gd_split)) <;> (intro hc; (try simp only [hcn] at hc); (try simp only [hc]); (try simp only [hcl] at hc); try omega))
      exact done (.inr (by omega)) _ (by simp (disch := first | omega | (simp only [lnv]; omega)) only [wlk, ↓get_put', ↓reduceIte, seval, e0]) (by simp (disch := first | omega | (simp only [lnv]; omega)) only [wlk, ↓get_put', ↓reduceIte, seval, e1]) (by simp (disch := first | omega | (simp only [lnv]; omega)) only [wlk, ↓get_put', ↓reduceIte, seval, e2]) (by simp (disch := first | omega | (simp only [lnv]; omega)) only [wlk, ↓get_put', ↓reduceIte, seval, e6]; rfl)
    rw [decide_eq_true hlt]
    repeat' (first
      | refine St.h ?_
      | simp (disch := first | omega | (simp only [lnv]; omega)) only [wlk, ↓get_put', ↓reduceIte, seval, e0, e1, e2, e6, e7, rI_ix hl2, rI_ld hl2, w1, Int.toNat_natCast]
      | (with_reducible (first | apply cd_split | apply gd_split)) <;> (intro hc; (try simp only [hcn] at hc); (try simp only [hc]); (try simp only [hcl] at hc); try omega))
    refine ST.buf (y := .i .i64 (f (m2 - 1))) bf tg rfl rfl (by rw [rI_len]; omega) (by omega) fun g3 b3 tp3 t3 => ?_
    rw [rI_set] at b3
    have hl3 := b3.lst
    repeat' (first
      | refine St.h ?_
      | simp (disch := first | omega | (simp only [lnv]; omega)) only [wlk, ↓get_put', ↓reduceIte, seval, e0, e1, e2, e6, e7, rI_ix hl3, rI_ld hl3, w1, Int.toNat_natCast]
      | (with_reducible (first | apply cd_split | apply gd_split)) <;> (intro hc; (try simp only [hcn] at hc); (try simp only [hc]); (try simp only [hcl] at hc); try omega))
    refine ST.buf (y := .i .i64 (f m2)) b3 tp3 rfl rfl (by rw [rI_len]; omega) (by omega) fun g4 b4 tp4 t4 => ?_
    rw [rI_set] at b4
    repeat' (first
      | refine St.h ?_
      | simp (disch := first | omega | (simp only [lnv]; omega)) only [wlk, ↓get_put', ↓reduceIte, seval, e0, e1, e2, e6, e7]
      | (with_reducible (first | apply cd_split | apply gd_split)) <;> (intro hc; (try simp only [hcn] at hc); (try simp only [hc]); (try simp only [hcl] at hc); try omega))
    refine lp_next hI2 (m2 - 1) (by omega) ⟨m2 - 1, swp f m2, rfl, by omega, by simp (disch := first | omega | (simp only [lnv]; omega)) only [wlk, ↓get_put', ↓reduceIte, seval, e0], by simp (disch := first | omega | (simp only [lnv]; omega)) only [wlk, ↓get_put', ↓reduceIte, seval, e1], by simp (disch := first | omega | (simp only [lnv]; omega)) only [wlk, ↓get_put', ↓reduceIte, seval, e2], by simp (disch := first | omega | (simp only [lnv]; omega)) only [wlk, ↓get_put', ↓reduceIte, seval, e6], by simp (disch := first | omega | (simp only [lnv]; omega)) only [wlk, ↓get_put', ↓reduceIte, seval, e7]; congr 1; omega, mid_swp hM (by omega) hj hlt, fun n => by rw [swp_mem (by omega) (by omega)]; exact hmem n, b4, tp4, st.trans (t3.trans t4)⟩
  · repeat' (first
      | refine St.h ?_
      | simp (disch := first | omega | (simp only [lnv]; omega)) only [wlk, ↓get_put', ↓reduceIte, seval, e0, e1, e2, e6, e7]
      | (with_reducible (first | apply cd_split | apply gd_split)) <;> (intro hc; (try simp only [hcn] at hc); (try simp only [hc]); (try simp only [hcl] at hc); try omega))
    exact done (.inl (by omega)) _ (by simp (disch := first | omega | (simp only [lnv]; omega)) only [wlk, ↓get_put', ↓reduceIte, seval, e0]) (by simp (disch := first | omega | (simp only [lnv]; omega)) only [wlk, ↓get_put', ↓reduceIte, seval, e1]) (by simp (disch := first | omega | (simp only [lnv]; omega)) only [wlk, ↓get_put', ↓reduceIte, seval, e2]) (by simp (disch := first | omega | (simp only [lnv]; omega)) only [wlk, ↓get_put', ↓reduceIte, seval, e6]; rfl)
def tabL : List UInt8 := [0, 1, 2, 2, 3, 3, 3, 3] ++ List.replicate 8 4 ++ List.replicate 16 5 ++ List.replicate 32 6 ++ List.replicate 64 7 ++ List.replicate 128 8
theorem tabL_len : tabL.length = 256 := by decide
theorem tabL_le (j : Nat) : (tabL.getD j 0).toNat ≤ 8 := by
  have : ∀ x ∈ tabL, x.toNat ≤ 8 := by decide
  by_cases h : j < tabL.length
  · rw [List.getD_eq_getElem?_getD, List.getElem?_eq_getElem h]
    exact this _ (List.getElem_mem h)
  · rw [List.getD_eq_getElem?_getD, List.getElem?_eq_none (by omega)]
    show 0 ≤ 8; omega
theorem tabL_s : V.s 256 496986003408712215933005303621146343841837811690876167382323004466384420695090407243345123874780946046625255262057845613767806773758184921447759720770971536008171983842311960805720366577116933250839345203839274948261284255908394484732272583221484877694546905335834403051067785895034095251181560891789708940188598129052595634438001880866652824740680664595948164050600812232986714152902334120417949232733424961741260388658846598210939813666227264727603044226856020347194099943897342244906131705541414413428559898943151040826816076322978570758226444464494629814583418847495712557856038296917933182380796641777551368 = sv tabL := by rfl
theorem tabL_ix {P : Program} {h : H} {N : Nx} {kd : IntKind} {x : Int} (h0 : 0 ≤ x) (h1 : x < 256) : H2 P gSIndex (sv tabL) (.i kd x) h N = N.go P (.i .u8 ((min 8 (tabL.getD x.toNat 0).toNat : Nat) : Int)) h := by
  rw [h2_sindex h0 (by rw [tabL_len]; exact h1), Nat.min_eq_right (tabL_le _)]
theorem len64N_ok {h : H} {n : Nat} (hn : n < 18446744073709551616) : FnOk Try.prog 52 [.i .u64 (n : Int)] h fun y h' => ∃ k : Nat, k ≤ 64 ∧ y = .i .i64 (k : Int) ∧ h' = h := by
  refine fn_go c52 (by intro hb; cases hb) (by simp) (by simp) fun Q hQ => ?_
  simp only [slotsF, Nat.reduceAdd]
  repeat' (first
    | refine St.h ?_
    | simp (disch := first | omega | (simp only [lnv]; omega)) only [wlk, ↓get_put', ↓reduceIte, seval, Int.toNat_natCast, tabL_s, tabL_ix]
    | (with_reducible (first | apply cd_split | apply gd_split)) <;> (intro hc; (try simp only [hcn] at hc); (try simp only [hc]); (try simp only [hcl] at hc); try omega))
  all_goals
    subst hQ
    refine ⟨(_ : Int).toNat, ?_, congrArg (V.i .i64) (Int.toNat_of_nonneg ?_).symm, rfl⟩ <;> omega
theorem len_ok {h : H} {n : Nat} (hn : n ≤ 1000) : FnOk Try.prog 39 [.i .u64 (n : Int)] h fun y h' => ∃ k : Int, y = .i .i64 k ∧ h' = h := by
  refine fn_go c39 (by intro hb; cases hb) (by simp) (by simp) fun Q hQ => ?_
  simp only [slotsF, Nat.reduceAdd]
  repeat' (first
    | refine St.h ?_
    | simp (disch := first | omega | (simp only [lnv]; omega)) only [wlk, ↓get_put', ↓reduceIte, seval]
    | (with_reducible (first | apply cd_split | apply gd_split)) <;> (intro hc; (try simp only [hcn] at hc); (try simp only [hc]); (try simp only [hcl] at hc); try omega))
  refine CL.mk (len64N_ok (n := n) (by omega)) ?_
  rintro _ _ ⟨k, hk, rfl, rfl⟩
  repeat' (first
    | refine St.h ?_
    | simp (disch := first | omega | (simp only [lnv]; omega)) only [wlk, ↓get_put', ↓reduceIte, seval]
    | (with_reducible (first | apply cd_split | apply gd_split)) <;> (intro hc; (try simp only [hcn] at hc); (try simp only [hc]); (try simp only [hcl] at hc); try omega))
  subst hQ
  exact ⟨_, rfl, rfl⟩
/-- few ints are sorted by insertion -/
theorem pdq_ok {h : H} {v : V} {xs : List Int} {k : Int} (hb : Buf h 3 1 v (xs.map (V.i .i64))) (tp : Top h v) (hl : xs.length ≤ 12) (hw : ∀ n ∈ xs, -9223372036854775808 ≤ n ∧ n ≤ 9223372036854775807) (hf : B.val h.floor ≤ B.val h.next) : FnOk Try.prog 38 [v, .i .i64 0, .i .i64 (xs.length : Int), .i .i64 k] h fun y h' =>
    ∃ ys : List Int, SrtI ys ∧ (∀ n, n ∈ ys ↔ n ∈ xs) ∧ ys.length = xs.length ∧ Buf h' 3 1 v (ys.map (V.i .i64)) ∧ Top h' v ∧ Stay (isOf v) h h' := by
  refine fn_go c38 (by intro hb; cases hb) (by simp) (by simp) fun Q hQ => ?_
  simp only [slotsF, Nat.reduceAdd]
  repeat' (first
    | refine St.h ?_
    | simp (disch := first | omega | (simp only [lnv]; omega)) only [wlk, ↓get_put', ↓reduceIte, seval]
    | (with_reducible (first | apply cd_split | apply gd_split)) <;> (intro hc; (try simp only [hcn] at hc); (try simp only [hc]); (try simp only [hcl] at hc); try omega))
  refine Ok.lp (fun m t g => m = 0 ∧ h = g ∧ get 0 t = v ∧ get 1 t = .i .i64 0 ∧ get 2 t = .i .i64 (xs.length : Int)) 0 ?_ ?_
  · simp (disch := first | omega | (simp only [lnv]; omega)) only [wlk, ↓get_put', ↓reduceIte, seval]
    repeat' (first | trivial | rfl | refine And.intro ?_ ?_)
  rintro I hI m t g ⟨rfl, rfl, f0, f1, f2⟩
  repeat' (first
    | refine St.h ?_
    | simp (disch := first | omega | (simp only [lnv]; omega)) only [wlk, ↓get_put', ↓reduceIte, seval, f0, f1, f2]
    | (with_reducible (first | apply cd_split | apply gd_split)) <;> (intro hc; (try simp only [hcn] at hc); (try simp only [hc]); (try simp only [hcl] at hc); try omega))
  refine CL.mk (isort_ok hb tp (by omega) hw hf) ?_
  rintro y h1 ⟨ys, p1, p2, p3, p4, p5, p6⟩
  repeat' (first
    | refine St.h ?_
    | simp (disch := first | omega | (simp only [lnv]; omega)) only [wlk, ↓get_put', ↓reduceIte, seval]
    | (with_reducible (first | apply cd_split | apply gd_split)) <;> (intro hc; (try simp only [hcn] at hc); (try simp only [hc]); (try simp only [hcl] at hc); try omega))
  subst hQ
  exact ⟨ys, p1, p2, p3, p4, p5, p6⟩
theorem sort_ok {h : H} {v : V} {xs : List Int} (hb : Buf h 3 1 v (xs.map (V.i .i64))) (tp : Top h v) (hl : xs.length ≤ 12) (hw : ∀ n ∈ xs, -9223372036854775808 ≤ n ∧ n ≤ 9223372036854775807) (hf : B.val h.floor ≤ B.val h.next) : FnOk Try.prog 28 [v] h fun y h' =>
    ∃ ys : List Int, SrtI ys ∧ (∀ n, n ∈ ys ↔ n ∈ xs) ∧ ys.length = xs.length ∧ Buf h' 3 1 v (ys.map (V.i .i64)) ∧ Top h' v ∧ Stay (isOf v) h h' := by
  have hln : ∀ N, H1 Try.prog gLen v h N = N.go Try.prog (.i .i64 (xs.length : Int)) h := fun N => by rw [Lst.ln hb.lst, List.length_map]
  refine fn_go c28 (by intro hb; cases hb) (by simp) (by simp) fun Q hQ => ?_
  simp only [slotsF, Nat.reduceAdd]
  repeat' (first
    | refine St.h ?_
    | simp (disch := first | omega | (simp only [lnv]; omega)) only [wlk, ↓get_put', ↓reduceIte, seval, hln]
    | (with_reducible (first | apply cd_split | apply gd_split)) <;> (intro hc; (try simp only [hcn] at hc); (try simp only [hc]); (try simp only [hcl] at hc); try omega))
  refine CL.mk (len_ok (n := xs.length) (by omega)) ?_
  rintro _ _ ⟨k, rfl, rfl⟩
  repeat' (first
    | refine St.h ?_
    | simp (disch := first | omega | (simp only [lnv]; omega)) only [wlk, ↓get_put', ↓reduceIte, seval]
    | (with_reducible (first | apply cd_split | apply gd_split)) <;> (intro hc; (try simp only [hcn] at hc); (try simp only [hc]); (try simp only [hcl] at hc); try omega))
  refine CL.mk (pdq_ok hb tp hl hw hf) ?_
  rintro y h1 ⟨ys, p1, p2, p3, p4, p5, p6⟩
  repeat' (first
    | refine St.h ?_
    | simp (disch := first | omega | (simp only [lnv]; omega)) only [wlk, ↓get_put', ↓reduceIte, seval]
    | (with_reducible (first | apply cd_split | apply gd_split)) <;> (intro hc; (try simp only [hcn] at hc); (try simp only [hc]); (try simp only [hcl] at hc); try omega))
  subst hQ
  exact ⟨ys, p1, p2, p3, p4, p5, p6⟩
theorem bsearch_ok {h : H} {v : V} {xs : List Int} {x : Int} (hL : Lst h v (xs.map (V.i .i64))) (hl : xs.length ≤ 1000) : FnOk Try.prog 40 [v, .i .i64 x] h fun y h' =>
    ∃ (k : Nat) (b : Bool), y = .tu [.i .i64 (k : Int), .b b] ∧ k ≤ xs.length ∧ (0 < k → xs.getD (k - 1) 0 < x) ∧ (k < xs.length → x ≤ xs.getD k 0) ∧ h' = h := by
  have hL : Lst h v (rI (fun j => xs.getD j 0) xs.length) := by rw [← rI_of]; exact hL
  refine fn_go c40 (by intro hb; cases hb) (by simp) (by simp) fun Q hQ => ?_
  simp only [slotsF, Nat.reduceAdd]
  repeat' (first
    | refine St.h ?_
    | simp (disch := first | omega | (simp only [lnv]; omega)) only [wlk, ↓get_put', ↓reduceIte, seval, rI_ln hL]
    | (with_reducible (first | apply cd_split | apply gd_split)) <;> (intro hc; (try simp only [hcn] at hc); (try simp only [hc]); (try simp only [hcl] at hc); try omega))
  refine Ok.lp (fun m t g => ∃ i j : Nat, m = j - i ∧ i ≤ j ∧ j ≤ xs.length ∧ h = g ∧ (0 < i → xs.getD (i - 1) 0 < x) ∧ (j < xs.length → x ≤ xs.getD j 0) ∧ get 0 t = v ∧ get 1 t = .i .i64 x ∧ get 6 t = .i .i64 (xs.length : Int) ∧ get 7 t = .i .i64 (i : Int) ∧ get 8 t = .i .i64 (j : Int)) xs.length ?_ ?_
  · simp (disch := first | omega | (simp only [lnv]; omega)) only [wlk, ↓get_put', ↓reduceIte, seval]
    refine ⟨0, xs.length, by omega, by omega, by omega, trivial, fun h => by omega, fun h => by omega, ?_, ?_, ?_, ?_, ?_⟩ <;> first | trivial | rfl
  rintro I hI m t g ⟨i, j, rfl, hij, hjn, rfl, h1, h2, f0, f1, f6, f7, f8⟩
  by_cases hlt : i < j
  case neg =>
    obtain rfl : i = j := by omega
    by_cases hin : i < xs.length
    case neg =>
      repeat' (first
        | refine St.h ?_
        | simp (disch := first | omega | (simp only [lnv]; omega)) only [wlk, ↓get_put', ↓reduceIte, seval, f0, f1, f6, f7, f8]
        | (with_reducible (first | apply cd_split | apply gd_split)) <;> (intro hc; (try simp only [hcn] at hc); (try simp only [hc]); (try simp only [hcl] at hc); try omega))
      subst hQ
      exact ⟨i, _, rfl, hjn, h1, h2, rfl⟩
    by_cases hxx : xs.getD i 0 = x
    case pos =>
      have d1 : (xs.getD i 0 = x) = True := eq_true hxx
      repeat' (first
        | refine St.h ?_
        | simp (disch := first | omega | (simp only [lnv]; omega)) only [wlk, ↓get_put', ↓reduceIte, seval, f0, f1, f6, f7, f8, rI_ix hL, rI_ld hL, d1, Int.toNat_natCast]
        | (with_reducible (first | apply cd_split | apply gd_split)) <;> (intro hc; (try simp only [hcn] at hc); (try simp only [hc]); (try simp only [hcl] at hc); try omega))
      subst hQ
      exact ⟨i, _, rfl, hjn, h1, h2, rfl⟩
    have d1 : (xs.getD i 0 = x) = False := eq_false hxx
    repeat' (first
      | refine St.h ?_
      | simp (disch := first | omega | (simp only [lnv]; omega)) only [wlk, ↓get_put', ↓reduceIte, seval, f0, f1, f6, f7, f8, rI_ix hL, rI_ld hL, d1, Int.toNat_natCast]
      | (with_reducible (first | apply cd_split | apply gd_split)) <;> (intro hc; (try simp only [hcn] at hc); (try simp only [hc]); (try simp only [hcl] at hc); try omega))
    refine CL.pure snan_ok ?_
    repeat' (first
      | refine St.h ?_
      | simp (disch := first | omega | (simp only [lnv]; omega)) only [wlk, ↓get_put', ↓reduceIte, seval, f0, f1, f6, f7, f8]
      | (with_reducible (first | apply cd_split | apply gd_split)) <;> (intro hc; (try simp only [hcn] at hc); (try simp only [hc]); (try simp only [hcl] at hc); try omega))
    subst hQ
    exact ⟨i, _, rfl, hjn, h1, h2, rfl⟩
  have hm : ((i : Int) + (j : Int)).toNat / 2 = (i + j) / 2 := by omega
  have hm2 : ((i : Int) + (j : Int)) / 2 = (((i + j) / 2 : Nat) : Int) := by omega
  repeat' (first
    | refine St.h ?_
    | simp (disch := first | omega | (simp only [lnv]; omega)) only [wlk, ↓get_put', ↓reduceIte, seval, f0, f1, f6, f7, f8, hm, hm2, rI_ix hL, rI_ld hL, Int.toNat_natCast]
    | (with_reducible (first | apply cd_split | apply gd_split)) <;> (intro hc; (try simp only [hcn] at hc); (try simp only [hc]); (try simp only [hcl] at hc); try omega))
  refine CL.pure cless_ok ?_
  by_cases hb : xs.getD ((i + j) / 2) 0 < x
  case neg =>
    rw [decide_eq_false hb]
    repeat' (first
      | refine St.h ?_
      | simp (disch := first | omega | (simp only [lnv]; omega)) only [wlk, ↓get_put', ↓reduceIte, seval, f0, f1, f6, f7, f8]
      | (with_reducible (first | apply cd_split | apply gd_split)) <;> (intro hc; (try simp only [hcn] at hc); (try simp only [hc]); (try simp only [hcl] at hc); try omega))
    refine lp_next hI ((i + j) / 2 - i) (by omega) ⟨i, (i + j) / 2, rfl, by omega, by omega, rfl, h1, fun _ => by omega, by simp (disch := first | omega | (simp only [lnv]; omega)) only [wlk, ↓get_put', ↓reduceIte, seval, f0], by simp (disch := first | omega | (simp only [lnv]; omega)) only [wlk, ↓get_put', ↓reduceIte, seval, f1], by simp (disch := first | omega | (simp only [lnv]; omega)) only [wlk, ↓get_put', ↓reduceIte, seval, f6], by simp (disch := first | omega | (simp only [lnv]; omega)) only [wlk, ↓get_put', ↓reduceIte, seval, f7], by simp (disch := first | omega | (simp only [lnv]; omega)) only [wlk, ↓get_put', ↓reduceIte, seval]⟩
  case pos =>
    rw [decide_eq_true hb]
    repeat' (first
      | refine St.h ?_
      | simp (disch := first | omega | (simp only [lnv]; omega)) only [wlk, ↓get_put', ↓reduceIte, seval, f0, f1, f6, f7, f8]
      | (with_reducible (first | apply cd_split | apply gd_split)) <;> (intro hc; (try simp only [hcn] at hc); (try simp only [hc]); (try simp only [hcl] at hc); try omega))
    refine lp_next hI (j - ((i + j) / 2 + 1)) (by omega) ⟨(i + j) / 2 + 1, j, rfl, by omega, by omega, rfl, fun _ => by rw [Nat.add_sub_cancel]; exact hb, h2, by simp (disch := first | omega | (simp only [lnv]; omega)) only [wlk, ↓get_put', ↓reduceIte, seval, f0], by simp (disch := first | omega | (simp only [lnv]; omega)) only [wlk, ↓get_put', ↓reduceIte, seval, f1], by simp (disch := first | omega | (simp only [lnv]; omega)) only [wlk, ↓get_put', ↓reduceIte, seval, f6], by simp (disch := first | omega | (simp only [lnv]; omega)) only [wlk, ↓get_put', ↓reduceIte, seval]; rfl, by simp (disch := first | omega | (simp only [lnv]; omega)) only [wlk, ↓get_put', ↓reduceIte, seval, f8]⟩
theorem isNone_ok {h : H} {e : Ent} (hf : B.val h.floor ≤ B.val h.next) : FnOk Try.prog 26 [.a (entC e)] h fun y h' => y = .b (!isE e) ∧ Stay nowhere h h' := by
  obtain ⟨xk, xq, xd, xv⟩ := e
  unfold entC
  refine fn_go c26 (by intro hb; cases hb) (by simp) (by simp) fun Q hQ => ?_
  simp only [slotsF, Nat.reduceAdd]
  repeat' (first
    | refine St.h ?_
    | simp (disch := first | omega | (simp only [lnv]; omega)) only [wlk, ↓get_put', ↓reduceIte, seval]
    | (with_reducible (first | apply cd_split | apply gd_split)) <;> (intro hc; (try simp only [hcn] at hc); (try simp only [hc]); (try simp only [hcl] at hc); try omega))
  refine AL.own (by simp) hf fun h1 s1 n1 o1 => ?_
  repeat' (first
    | refine St.h ?_
    | simp (disch := first | omega | (simp only [lnv]; omega)) only [wlk, ↓get_put', ↓reduceIte, seval, o1.row.ln]
    | (with_reducible (first | apply cd_split | apply gd_split)) <;> (intro hc; (try simp only [hcn] at hc); (try simp only [hc]); (try simp only [hcl] at hc); try omega))
  refine CL.stay (is_ok (e := ⟨xk, xq, xd, xv⟩) (s1.fl hf)) fun h2 s2 => ?_
  repeat' (first
    | refine St.h ?_
    | simp (disch := first | omega | (simp only [lnv]; omega)) only [wlk, ↓get_put', ↓reduceIte, seval]
    | (with_reducible (first | apply cd_split | apply gd_split)) <;> (intro hc; (try simp only [hcn] at hc); (try simp only [hc]); (try simp only [hcl] at hc); try omega))
  subst hQ
  exact ⟨rfl, s1.trans s2⟩
theorem indexNone_ok {h : H} {v : V} {L : List Ent} (hL : Es h v L) (hl : L.length ≤ 1000000) (hf : B.val h.floor ≤ B.val h.next) : FnOk Try.prog 36 [v, .f 26 []] h fun y h' =>
    ∃ k : Int, y = .i .i64 k ∧ -1 ≤ k ∧ k ≤ L.length ∧ (0 ≤ k ↔ L.all isE = false) ∧ Stay nowhere h h' := by
  refine fn_go c36 (by intro hb; cases hb) (by simp) (by simp) fun Q hQ => ?_
  simp only [slotsF, Nat.reduceAdd]
  repeat' (first
    | refine St.h ?_
    | simp (disch := first | omega | (simp only [lnv]; omega)) only [wlk, ↓get_put', ↓reduceIte, seval, hL.ln]
    | (with_reducible (first | apply cd_split | apply gd_split)) <;> (intro hc; (try simp only [hcn] at hc); (try simp only [hc]); (try simp only [hcl] at hc); try omega))
  refine Ok.lp (fun m t g => ∃ i : Nat, m = L.length - i ∧ i ≤ L.length ∧ get 0 t = v ∧ get 1 t = .f 26 [] ∧ get 7 t = .i .i64 (L.length : Int) ∧ get 8 t = .i .i64 (i : Int) ∧ (∀ q, q < i → isE (L.getD q default) = true) ∧ Stay nowhere h g) L.length ?_ ?_
  · simp (disch := first | omega | (simp only [lnv]; omega)) only [wlk, ↓get_put', ↓reduceIte, seval]
    refine ⟨0, by omega, by omega, ?_⟩
    refine ⟨?_, ?_, ?_, ?_, fun q hq => by omega, Stay.refl _ _⟩
    all_goals first | trivial | rfl
  rintro I hI m t g ⟨i, rfl, hi, f0, f1, f7, f8, hno, st⟩
  have hfg := st.fl hf
  have hLg := hL.grow st
  by_cases hil : i < L.length
  case neg =>
    obtain rfl : i = L.length := by omega
    repeat' (first
      | refine St.h ?_
      | simp (disch := first | omega | (simp only [lnv]; omega)) only [wlk, ↓get_put', ↓reduceIte, seval, f0, f1, f7, f8]
      | (with_reducible (first | apply cd_split | apply gd_split)) <;> (intro hc; (try simp only [hcn] at hc); (try simp only [hc]); (try simp only [hcl] at hc); try omega))
    subst hQ
    exact ⟨_, rfl, by omega, by omega, by rw [all_ok hno]; simp, st⟩
  repeat' (first
    | refine St.h ?_
    | simp (disch := first | omega | (simp only [lnv]; omega)) only [wlk, ↓get_put', ↓reduceIte, seval, f0, f1, f7, f8, hL.ix, hLg.la, Int.toNat_natCast]
    | (with_reducible (first | apply cd_split | apply gd_split)) <;> (intro hc; (try simp only [hcn] at hc); (try simp only [hc]); (try simp only [hcl] at hc); try omega))
  refine CL.stay (isNone_ok (e := L.getD i default) hfg) fun g1 t1 => ?_
  cases he : isE (L.getD i default) with
  | false =>
    repeat' (first
      | refine St.h ?_
      | simp (disch := first | omega | (simp only [lnv]; omega)) only [wlk, ↓get_put', ↓reduceIte, seval, f0, f1, f7, f8]
      | (with_reducible (first | apply cd_split | apply gd_split)) <;> (intro hc; (try simp only [hcn] at hc); (try simp only [hc]); (try simp only [hcl] at hc); try omega))
    subst hQ
    exact ⟨_, rfl, by omega, by omega, by rw [all_at hil he]; simp, st.trans t1⟩
  | true =>
    repeat' (first
      | refine St.h ?_
      | simp (disch := first | omega | (simp only [lnv]; omega)) only [wlk, ↓get_put', ↓reduceIte, seval, f0, f1, f7, f8]
      | (with_reducible (first | apply cd_split | apply gd_split)) <;> (intro hc; (try simp only [hcn] at hc); (try simp only [hc]); (try simp only [hcl] at hc); try omega))
    refine lp_next hI (L.length - (i + 1)) (by omega) ⟨i + 1, rfl, by omega, by simp (disch := first | omega | (simp only [lnv]; omega)) only [wlk, ↓get_put', ↓reduceIte, seval, f0], by simp (disch := first | omega | (simp only [lnv]; omega)) only [wlk, ↓get_put', ↓reduceIte, seval, f1], by simp (disch := first | omega | (simp only [lnv]; omega)) only [wlk, ↓get_put', ↓reduceIte, seval, f7], by simp (disch := first | omega | (simp only [lnv]; omega)) only [wlk, ↓get_put', ↓reduceIte, seval, f8]; rfl, fun q hq => ?_, st.trans t1⟩
    by_cases e : q = i
    · rw [e]; exact he
    · exact hno q (by omega)
theorem anyNone_ok {h : H} {v : V} {L : List Ent} (hL : Es h v L) (hl : L.length ≤ 1000000) (hf : B.val h.floor ≤ B.val h.next) : FnOk Try.prog 25 [v, .f 26 []] h fun y h' => y = .b (!L.all isE) ∧ Stay nowhere h h' := by
  refine fn_go c25 (by intro hb; cases hb) (by simp) (by simp) fun Q hQ => ?_
  simp only [slotsF, Nat.reduceAdd]
  repeat' (first
    | refine St.h ?_
    | simp (disch := first | omega | (simp only [lnv]; omega)) only [wlk, ↓get_put', ↓reduceIte, seval]
    | (with_reducible (first | apply cd_split | apply gd_split)) <;> (intro hc; (try simp only [hcn] at hc); (try simp only [hc]); (try simp only [hcl] at hc); try omega))
  refine CL.mk (indexNone_ok hL hl hf) ?_
  rintro _ h1 ⟨k, rfl, k1, k2, k3, s1⟩
  have hk : decide (0 ≤ k) = !L.all isE := by
    cases hh : L.all isE with
    | false => exact decide_eq_true (k3.2 hh)
    | true => exact decide_eq_false fun h => by rw [k3.1 h] at hh; cases hh
  repeat' (first
    | refine St.h ?_
    | simp (disch := first | omega | (simp only [lnv]; omega)) only [wlk, ↓get_put', ↓reduceIte, seval]
    | (with_reducible (first | apply cd_split | apply gd_split)) <;> (intro hc; (try simp only [hcn] at hc); (try simp only [hc]); (try simp only [hcl] at hc); try omega))
  subst hQ
  exact ⟨by rw [hk], s1⟩
end Go.Proofs.Ytnjgoggnhdpnoaa

set_option maxRecDepth 100000
set_option maxHeartbeats 8000000
set_option linter.all false
namespace Go.Proofs.Ytnjgoggnhdpnoaa
open Go Go.Ev
theorem cloneE0_ok {h : H} : FnOk Try.prog 34 [.l0] h fun y h' => y = .l0 ∧ h' = h := by
  refine fn_go c34 (by intro hb; cases hb) (by simp) (by simp) fun Q hQ => ?_
  simp only [slotsF, Nat.reduceAdd]
  repeat' (first
    | refine St.h ?_
    | simp (disch := first | omega | (simp only [lnv]; omega)) only [wlk, ↓get_put', ↓reduceIte, seval]
    | (with_reducible (first | apply cd_split | apply gd_split)) <;> (intro hc; (try simp only [hcn] at hc); (try simp only [hc]); (try simp only [hcl] at hc); try omega))
  subst hQ
  exact ⟨rfl, rfl⟩
theorem cloneE1_ok {h : H} {id : B} {gg off len fin : Nat} {cap : Option Nat} {L : List Ent} (hL : Es h (.l id gg off len fin cap) L) (hl : L.length ≤ 100000) (hf : B.val h.floor ≤ B.val h.next) : FnOk Try.prog 34 [.l id gg off len fin cap] h fun y h' => Es h' y L ∧ SwN 4 y ∧ Stay nowhere h h' := by
  refine fn_go c34 (by intro hb; cases hb) (by simp) (by simp) fun Q hQ => ?_
  simp only [slotsF, Nat.reduceAdd]
  repeat' (first
    | refine St.h ?_
    | simp (disch := first | omega | (simp only [lnv]; omega)) only [wlk, ↓get_put', ↓reduceIte, seval]
    | (with_reducible (first | apply cd_split | apply gd_split)) <;> (intro hc; (try simp only [hcn] at hc); (try simp only [hc]); (try simp only [hcl] at hc); try omega))
  refine AL.own (by simp) hf fun h1 s1 n1 o1 => ?_
  have hf1 := s1.fl hf
  repeat' (first
    | refine St.h ?_
    | simp (disch := first | omega | (simp only [lnv]; omega)) only [wlk, ↓get_put', ↓reduceIte, seval]
    | (with_reducible (first | apply cd_split | apply gd_split)) <;> (intro hc; (try simp only [hcn] at hc); (try simp only [hc]); (try simp only [hcl] at hc); try omega))
  refine AP.e1 (new_ss (hL.grow s1) entC_len (by omega)) hf1 (fm_len entC_len L) (by omega) (by rw [fm_len entC_len L]; omega) (fun e => ?_) fun h2 e s2 n2 b2 tp2 => ?_
  · have : L = [] := List.eq_nil_of_length_eq_zero e
    subst this
    repeat' (first
      | refine St.h ?_
      | simp (disch := first | omega | (simp only [lnv]; omega)) only [wlk, ↓get_put', ↓reduceIte, seval]
      | (with_reducible (first | apply cd_split | apply gd_split)) <;> (intro hc; (try simp only [hcn] at hc); (try simp only [hc]); (try simp only [hcl] at hc); try omega))
    subst hQ
    exact ⟨Ss.lit o1 rfl entC_len rfl (by simp), .inr ⟨_, _, _, _, _, _, rfl, by simp⟩, s1⟩
  · repeat' (first
      | refine St.h ?_
      | simp (disch := first | omega | (simp only [lnv]; omega)) only [wlk, ↓get_put', ↓reduceIte, seval]
      | (with_reducible (first | apply cd_split | apply gd_split)) <;> (intro hc; (try simp only [hcn] at hc); (try simp only [hc]); (try simp only [hcl] at hc); try omega))
    subst hQ
    exact ⟨Ss.buf b2 rfl entC_len (by omega), swn_bufE b2, s1.trans s2⟩
theorem cloneE_ok {h : H} {v : V} {L : List Ent} (hL : Es h v L) (hl : L.length ≤ 100000) (hf : B.val h.floor ≤ B.val h.next) : FnOk Try.prog 34 [v] h fun y h' => Es h' y L ∧ SwN 4 y ∧ Stay nowhere h h' := by
  have hL0 := hL
  rcases hL with ⟨rfl, rfl⟩ | ⟨id, gg, off, fin, cap, rfl, hh⟩
  · exact cloneE0_ok.mono fun y h' ⟨a, b⟩ => by rw [a, b]; exact ⟨Ss.nil, .inl rfl, Stay.refl _ _⟩
  · exact cloneE1_ok hL0 hl hf
theorem cloneI0_ok {h : H} : FnOk Try.prog 27 [.l0] h fun y h' => y = .l0 ∧ h' = h := by
  refine fn_go c27 (by intro hb; cases hb) (by simp) (by simp) fun Q hQ => ?_
  simp only [slotsF, Nat.reduceAdd]
  repeat' (first
    | refine St.h ?_
    | simp (disch := first | omega | (simp only [lnv]; omega)) only [wlk, ↓get_put', ↓reduceIte, seval]
    | (with_reducible (first | apply cd_split | apply gd_split)) <;> (intro hc; (try simp only [hcn] at hc); (try simp only [hc]); (try simp only [hcl] at hc); try omega))
  subst hQ
  exact ⟨rfl, rfl⟩
/-- what comes of a clone of ints -/
def ClI (h h' : H) (y : V) (S : List Int) : Prop := (S = [] ∧ ∃ id g off fin, y = .l id g off 0 fin (some 0)) ∨ (Buf h' 3 1 y (S.map (V.i .i64)) ∧ ∀ q, isOf y q → B.val h.next ≤ B.val q)
theorem cloneI1_ok {h : H} {id : B} {gg off len fin : Nat} {cap : Option Nat} {S : List Int} (hS : Lst h (.l id gg off len fin cap) (S.map (V.i .i64))) (hl : S.length ≤ 100000) (hf : B.val h.floor ≤ B.val h.next) : FnOk Try.prog 27 [.l id gg off len fin cap] h fun y h' => ClI h h' y S ∧ Stay nowhere h h' := by
  refine fn_go c27 (by intro hb; cases hb) (by simp) (by simp) fun Q hQ => ?_
  simp only [slotsF, Nat.reduceAdd]
  repeat' (first
    | refine St.h ?_
    | simp (disch := first | omega | (simp only [lnv]; omega)) only [wlk, ↓get_put', ↓reduceIte, seval]
    | (with_reducible (first | apply cd_split | apply gd_split)) <;> (intro hc; (try simp only [hcn] at hc); (try simp only [hc]); (try simp only [hcl] at hc); try omega))
  refine AL.own (by simp) hf fun h1 s1 n1 o1 => ?_
  have hf1 := s1.fl hf
  repeat' (first
    | refine St.h ?_
    | simp (disch := first | omega | (simp only [lnv]; omega)) only [wlk, ↓get_put', ↓reduceIte, seval]
    | (with_reducible (first | apply cd_split | apply gd_split)) <;> (intro hc; (try simp only [hcn] at hc); (try simp only [hc]); (try simp only [hcl] at hc); try omega))
  refine AP.e1 (new_lst (hS.grow s1)) hf1 (by simp) (by simp; omega) (by simp; omega) (fun e => ?_) fun h2 e s2 n2 b2 tp2 => ?_
  · have : S = [] := List.eq_nil_of_length_eq_zero (by simpa using e)
    subst this
    repeat' (first
      | refine St.h ?_
      | simp (disch := first | omega | (simp only [lnv]; omega)) only [wlk, ↓get_put', ↓reduceIte, seval]
      | (with_reducible (first | apply cd_split | apply gd_split)) <;> (intro hc; (try simp only [hcn] at hc); (try simp only [hc]); (try simp only [hcl] at hc); try omega))
    subst hQ
    exact ⟨.inl ⟨rfl, _, _, _, _, rfl⟩, s1⟩
  · repeat' (first
      | refine St.h ?_
      | simp (disch := first | omega | (simp only [lnv]; omega)) only [wlk, ↓get_put', ↓reduceIte, seval]
      | (with_reducible (first | apply cd_split | apply gd_split)) <;> (intro hc; (try simp only [hcn] at hc); (try simp only [hc]); (try simp only [hcl] at hc); try omega))
    subst hQ
    refine ⟨.inr ⟨b2, ?_⟩, s1.trans s2⟩
    rintro q ⟨_, _, _, _, _, e⟩
    cases e; exact s1.next
theorem cloneI_ok {h : H} {v : V} {S : List Int} (hS : Kl h .i64 v S) (hl : S.length ≤ 100000) (hf : B.val h.floor ≤ B.val h.next) : FnOk Try.prog 27 [v] h fun y h' => ClI h h' y S ∧ Stay nowhere h h' := by
  have hS0 := hS
  rcases hS with ⟨rfl, e⟩ | ⟨id, gg, off, fin, cap, rfl, hh⟩
  · refine cloneI0_ok.mono fun y h' ⟨a, b⟩ => ?_
    rw [a, b]
    exact ⟨.inr ⟨by rw [e]; exact Buf.nil _ _ _, by rintro q ⟨_, _, _, _, _, e⟩; cases e⟩, Stay.refl _ _⟩
  · exact cloneI1_ok hS0 hl hf
theorem strip_ok {h : H} {v : V} {L : List Ent} (hL : Es h v L) (hw : SwN 4 v) (hl : L.length ≤ 100000) (hf : B.val h.floor ≤ B.val h.next) : FnOk Try.prog 30 [v] h fun y h' => Es h' y (stripE L) ∧ SwN 4 y ∧ h' = h := by
  refine fn_go c30 (by intro hb; cases hb) (by simp) (by simp) fun Q hQ => ?_
  simp only [slotsF, Nat.reduceAdd]
  repeat' (first
    | refine St.h ?_
    | simp (disch := first | omega | (simp only [lnv]; omega)) only [wlk, ↓get_put', ↓reduceIte, seval]
    | (with_reducible (first | apply cd_split | apply gd_split)) <;> (intro hc; (try simp only [hcn] at hc); (try simp only [hc]); (try simp only [hcl] at hc); try omega))
  refine Ok.lp (fun m t g => ∃ (u : V), m ≤ L.length ∧ h = g ∧ get 0 t = u ∧ Es h u (L.take m) ∧ SwN 4 u ∧ stripE (L.take m) = stripE L) L.length ?_ ?_
  · simp (disch := first | omega | (simp only [lnv]; omega)) only [wlk, ↓get_put', ↓reduceIte, seval]
    exact ⟨v, Nat.le_refl _, trivial, rfl, by rw [List.take_length]; exact hL, hw, by rw [List.take_length]⟩
  rintro I hI m t g ⟨u, hm, rfl, f0, hu, hwu, hst⟩
  have hlen : (L.take m).length = m := by rw [List.length_take]; omega
  have w1 : ((m : Int) - 1).toNat = m - 1 := by omega
  have w2 : ((m : Int) - 1) = ((m - 1 : Nat) : Int) ∨ m = 0 := by omega
  by_cases hm0 : 0 < m
  case neg =>
    obtain rfl : m = 0 := by omega
    repeat' (first
      | refine St.h ?_
      | simp (disch := first | omega | (simp only [lnv]; omega)) only [wlk, ↓get_put', ↓reduceIte, seval, f0, hu.ln, hlen]
      | (with_reducible (first | apply cd_split | apply gd_split)) <;> (intro hc; (try simp only [hcn] at hc); (try simp only [hc]); (try simp only [hcl] at hc); try omega))
    subst hQ
    refine ⟨?_, hwu, rfl⟩
    rw [← hst]; exact hu
  have w2 := w2.resolve_right (by omega)
  have hlt := take_ent (L := L) (i := m - 1) (by omega)
  rw [show m - 1 + 1 = m by omega] at hlt
  have hgd : (L.take m).getD (m - 1) default = L.getD (m - 1) default := by simp [List.getD, List.getElem?_take, show m - 1 < m by omega]
  cases hd : (L.getD (m - 1) default).del with
  | false =>
    repeat' (first
      | refine St.h ?_
      | simp (disch := first | omega | (simp only [lnv]; omega)) only [wlk, ↓get_put', ↓reduceIte, seval, f0, hu.ln, hu.ix, hu.l2, hlen, hgd, hd, w1]
      | (with_reducible (first | apply cd_split | apply gd_split)) <;> (intro hc; (try simp only [hcn] at hc); (try simp only [hc]); (try simp only [hcl] at hc); try omega))
    subst hQ
    rw [hlt, stripE_put hd, ← hlt] at hst
    exact ⟨by rw [← hst]; exact hu, hwu, rfl⟩
  | true =>
    obtain ⟨x, x1, x2, x3⟩ := Ss.hi (P := Try.prog) (kd := .i64) (k := m - 1) hu entC_len hwu (by omega)
    rw [List.take_take, Nat.min_eq_left (by omega)] at x1
    rw [hlt, stripE_del hd] at hst
    repeat' (first
      | refine St.h ?_
      | simp (disch := first | omega | (simp only [lnv]; omega)) only [wlk, ↓get_put', ↓reduceIte, seval, f0, hu.ln, hu.ix, hu.l2, hlen, hgd, hd, w1, w2, x3]
      | (with_reducible (first | apply cd_split | apply gd_split)) <;> (intro hc; (try simp only [hcn] at hc); (try simp only [hc]); (try simp only [hcl] at hc); try omega))
    exact lp_next hI (m - 1) (by omega) ⟨x, by omega, rfl, by simp (disch := first | omega | (simp only [lnv]; omega)) only [wlk, ↓get_put', ↓reduceIte, seval], x1, x2, hst⟩
/-- rows of one key each -/
theorem byKey_ok {h : H} {v : V} {L : List Ent} (hL : Es h v L) (hw : SwN 4 v) (hs : sortedE L = true) (hl : L.length ≤ 5000) (hf : B.val h.floor ≤ B.val h.next) : FnOk Try.prog 24 [v] h fun y h' => ∃ R ks, Bls h' y R ks ∧ Grp L R ∧ R.length ≤ L.length ∧ Stay nowhere h h' := by
  refine fn_go c24 (by intro hb; cases hb) (by simp) (by simp) fun Q hQ => ?_
  simp only [slotsF, Nat.reduceAdd]
  repeat' (first
    | refine St.h ?_
    | simp (disch := first | omega | (simp only [lnv]; omega)) only [wlk, ↓get_put', ↓reduceIte, seval, hL.ln]
    | (with_reducible (first | apply cd_split | apply gd_split)) <;> (intro hc; (try simp only [hcn] at hc); (try simp only [hc]); (try simp only [hcl] at hc); try omega))
  refine Ok.lp (fun m t g => ∃ (i fr : Nat) (u : V) (ks : List Bk), m = L.length - i ∧ i ≤ L.length ∧ fr ≤ i ∧ (i = L.length → fr = i) ∧ get 0 t = v ∧ get 3 t = u ∧ get 4 t = .i .i64 (fr : Int) ∧ get 7 t = .i .i64 (L.length : Int) ∧ get 8 t = .i .i64 (i : Int) ∧ Stay nowhere h g ∧ Buf g 23 1 u (ks.flatMap bkC) ∧ (∀ q, isOf u q → B.val h.next ≤ B.val q) ∧ (∀ k ∈ ks, Es h k.v k.l) ∧ ks.length ≤ fr ∧ Grp (L.take fr) (ks.map (·.l)) ∧ (∀ p, fr ≤ p → p ≤ i → p < L.length → (L.getD p default).key = (L.getD fr default).key) ∧ (∀ p q, p < fr → fr ≤ q → q < L.length → (L.getD p default).key ≠ (L.getD q default).key)) L.length ?_ ?_
  · simp (disch := first | omega | (simp only [lnv]; omega)) only [wlk, ↓get_put', ↓reduceIte, seval]
    refine ⟨0, 0, .l0, [], by omega, by omega, by omega, fun _ => rfl, ?_⟩
    refine ⟨?_, ?_, ?_, ?_, ?_, Stay.refl _ _, Buf.nil _ _ _, ?_, fun k hk => (by cases hk), Nat.le_refl _, ⟨rfl, fun g hg => (by cases hg), .nil⟩, fun p h1 h2 h3 => (by rw [show p = 0 by omega]), fun p q h1 => by omega⟩
    rotate_right
    · rintro i ⟨_, _, _, _, _, e⟩; cases e
    all_goals first | trivial | rfl
  rintro I hI m t g ⟨i, fr, u, ks, rfl, hi, hfr, hend, f0, f3, f4, f7, f8, st, bf, own, hes, hkl, G, hsm, hdf⟩
  have hfg := st.fl hf
  have hLg := hL.grow st
  by_cases hil : i < L.length
  case neg =>
    obtain rfl : i = L.length := by omega
    obtain rfl := hend rfl
    rw [List.take_length] at G
    repeat' (first
      | refine St.h ?_
      | simp (disch := first | omega | (simp only [lnv]; omega)) only [wlk, ↓get_put', ↓reduceIte, seval, f0, f3, f4, f7, f8]
      | (with_reducible (first | apply cd_split | apply gd_split)) <;> (intro hc; (try simp only [hcn] at hc); (try simp only [hc]); (try simp only [hcl] at hc); try omega))
    subst hQ
    exact ⟨ks.map (·.l), ks, ⟨Ss.buf bf rfl bkC_len (by omega), rfl, fun k hk => (hes k hk).grow st⟩, G, by rw [List.length_map]; exact hkl, st⟩
  have e1 : (i : Int) + 1 = ((i + 1 : Nat) : Int) := by omega
  have hfm := fm_len bkC_len ks
  obtain ⟨x, x1, x2, x3⟩ := Ss.mid (P := Try.prog) (kd := .i64) (kd' := .i64) hL entC_len hw (j := fr) (k := i + 1) (by omega) hil
  have close : (i + 1 = L.length ∨ (L.getD (i + 1) default).key ≠ (L.getD i default).key) →
      Grp (L.take (i + 1)) ((ks ++ [(⟨x, (L.take (i + 1)).drop fr⟩ : Bk)]).map (·.l)) ∧ (∀ p, i + 1 ≤ p → p ≤ i + 1 → p < L.length → (L.getD p default).key = (L.getD (i + 1) default).key) ∧ (∀ p q, p < i + 1 → i + 1 ≤ q → q < L.length → (L.getD p default).key ≠ (L.getD q default).key) := fun hc => by
    have hin : ∀ a, a ∈ (L.take (i + 1)).drop fr → ∃ p, fr ≤ p ∧ p ≤ i ∧ L.getD p default = a := fun a ha => by
      obtain ⟨q, hq, rfl⟩ := List.getElem_of_mem ha
      rw [List.length_drop, List.length_take] at hq
      refine ⟨fr + q, by omega, by omega, ?_⟩
      rw [List.getElem_drop, List.getElem_take, List.getD_eq_getElem?_getD, List.getElem?_eq_getElem (by omega)]; rfl
    refine ⟨⟨?_, fun g hg a ha b hb => ?_, ?_⟩, fun p h1 h2 h3 => by rw [show p = i + 1 by omega], fun p q h1 h2 h3 => ?_⟩
    · rw [List.map_append, List.flatten_append, G.flat]
      have : L.take fr = (L.take (i + 1)).take fr := by rw [List.take_take, Nat.min_eq_left (by omega)]
      show L.take fr ++ [(L.take (i + 1)).drop fr].flatten = _
      rw [List.flatten_cons, List.flatten_nil, List.append_nil, this, List.take_append_drop]
    · rw [List.map_append] at hg
      rcases List.mem_append.1 hg with hg | hg
      · exact G.same g hg a ha b hb
      · have : g = (L.take (i + 1)).drop fr := List.mem_singleton.1 hg
        subst this
        obtain ⟨p, p1, p2, rfl⟩ := hin a ha
        obtain ⟨q, q1, q2, rfl⟩ := hin b hb
        rw [hsm p p1 p2 (by omega), hsm q q1 q2 (by omega)]
    · rw [List.map_append, List.pairwise_append]
      refine ⟨G.pw, List.pairwise_singleton _ _, fun g hg k hk a ha b hb => ?_⟩
      have : k = (L.take (i + 1)).drop fr := List.mem_singleton.1 hk
      subst this
      obtain ⟨q, q1, q2, rfl⟩ := hin b hb
      have ha2 : a ∈ L.take fr := by rw [← G.flat, List.mem_flatten]; exact ⟨g, hg, ha⟩
      obtain ⟨p, hp, rfl⟩ := List.getElem_of_mem ha2
      rw [List.length_take] at hp
      have := hdf p q (by omega) q1 (by omega)
      rwa [List.getD_eq_getElem?_getD, List.getElem?_eq_getElem (show p < L.length by omega), Option.getD_some, ← List.getElem_take (i := p) (j := fr) (h := by rw [List.length_take]; omega)] at this
    · rcases Nat.lt_or_ge p fr with hp | hp
      · exact hdf p q hp (by omega) h3
      · intro e
        rcases hc with hc | hc
        · omega
        · have a1 := hsm p hp (by omega) (by omega)
          have a2 := hsm i hfr (Nat.le_refl _) hil
          have l1 := pw_at hs (show i < i + 1 by omega) (by omega)
          by_cases eq : q = i + 1
          · rw [← eq] at hc
            exact hc (e.symm.trans (a1.trans a2.symm))
          · have l2 := pw_at hs (show i + 1 < q by omega) h3
            exact hc (key_mid l1 l2 ((a2.trans a1.symm).trans e))
  have hks : ∀ k ∈ ks ++ [(⟨x, (L.take (i + 1)).drop fr⟩ : Bk)], Es h k.v k.l := fun k hk => by
    rcases List.mem_append.1 hk with hk | hk
    · exact hes k hk
    · rw [List.mem_singleton.1 hk]; exact x1
  have hcs : (((i : Int) + 1 = (L.length : Int)) = True ∧ i + 1 = L.length ∧ (2 = 3) = False) ∨ (((i : Int) + 1 = (L.length : Int)) = False ∧ i + 1 < L.length ∧ decide ((L.getD (i + 1) default).key = (L.getD i default).key) = false) ∨ (((i : Int) + 1 = (L.length : Int)) = False ∧ i + 1 < L.length ∧ decide ((L.getD (i + 1) default).key = (L.getD i default).key) = true) := by
    by_cases c : i + 1 = L.length
    · exact .inl ⟨eq_true (by omega), c, eq_false (by decide)⟩
    · refine .inr ?_
      have c1 : ((i : Int) + 1 = (L.length : Int)) = False := eq_false (by omega)
      by_cases c2 : (L.getD (i + 1) default).key = (L.getD i default).key
      · exact .inr ⟨c1, by omega, decide_eq_true c2⟩
      · exact .inl ⟨c1, by omega, decide_eq_false c2⟩
  have w1 : ((i : Int) + 1).toNat = i + 1 := by omega
  rw [← or_assoc] at hcs
  rcases hcs with hcs | ⟨d1, d2, d3⟩
  case inr =>
    repeat' (first
      | refine St.h ?_
      | simp (disch := first | omega | (simp only [lnv]; omega)) only [wlk, ↓get_put', ↓reduceIte, seval, f0, f3, f4, f7, f8, hL.ln, hL.ix, hLg.l0, d1, d3, w1, Int.toNat_natCast]
      | (with_reducible (first | apply cd_split | apply gd_split)) <;> (intro hc; (try simp only [hcn] at hc); (try simp only [hc]); (try simp only [hcl] at hc); try omega))
    refine lp_next hI (L.length - (i + 1)) (by omega) ⟨i + 1, fr, u, ks, rfl, by omega, by omega, fun h => by omega, by simp (disch := first | omega | (simp only [lnv]; omega)) only [wlk, ↓get_put', ↓reduceIte, seval, f0], by simp (disch := first | omega | (simp only [lnv]; omega)) only [wlk, ↓get_put', ↓reduceIte, seval, f3], by simp (disch := first | omega | (simp only [lnv]; omega)) only [wlk, ↓get_put', ↓reduceIte, seval, f4], by simp (disch := first | omega | (simp only [lnv]; omega)) only [wlk, ↓get_put', ↓reduceIte, seval, f7], by simp (disch := first | omega | (simp only [lnv]; omega)) only [wlk, ↓get_put', ↓reduceIte, seval, f8]; rfl, st, bf, own, hes, hkl, G, fun p h1 h2 h3 => ?_, hdf⟩
    by_cases e : p = i + 1
    · rw [e, of_decide_eq_true d3]; exact hsm i hfr (Nat.le_refl _) hil
    · exact hsm p h1 (by omega) h3
  have hclose := close (by
    rcases hcs with ⟨_, d, _⟩ | ⟨_, _, d⟩
    · exact .inl d
    · exact .inr (of_decide_eq_false d))
  rcases hcs with ⟨d1, d2, d3⟩ | ⟨d1, d2, d3⟩
  all_goals
    repeat' (first
      | refine St.h ?_
      | simp (disch := first | omega | (simp only [lnv]; omega)) only [wlk, ↓get_put', ↓reduceIte, seval, f0, f3, f4, f7, f8, hL.ln, hL.ix, hLg.l0, d1, d3, w1, e1, x3, fp_sw x2, Int.toNat_natCast]
      | (with_reducible (first | apply cd_split | apply gd_split)) <;> (intro hc; (try simp only [hcn] at hc); (try simp only [hc]); (try simp only [hcl] at hc); try omega))
    refine AL.own (by simp) hfg fun g4 t4 _ o4 => ?_
    have hfg4 := t4.fl hfg
    have bf4 := bf.grow t4
    repeat' (first
      | refine St.h ?_
      | simp (disch := first | omega | (simp only [lnv]; omega)) only [wlk, ↓get_put', ↓reduceIte, seval, f0, f3, f4, f7, f8]
      | (with_reducible (first | apply cd_split | apply gd_split)) <;> (intro hc; (try simp only [hcn] at hc); (try simp only [hc]); (try simp only [hcl] at hc); try omega))
    refine AP.buf (vs := [x]) (cnt := 1) bf4 (new_row o4.row rfl (Nat.le_refl _) (by omega) (by show 1 ≤ 1; omega)) hfg4 (by omega) rfl (one_sw x2) (by rw [hfm]; simp; omega) fun u' g5 b5 t5 ho tp => ?_
    repeat' (first
      | refine St.h ?_
      | simp (disch := first | omega | (simp only [lnv]; omega)) only [wlk, ↓get_put', ↓reduceIte, seval, f0, f3, f4, f7, f8]
      | (with_reducible (first | apply cd_split | apply gd_split)) <;> (intro hc; (try simp only [hcn] at hc); (try simp only [hc]); (try simp only [hcl] at hc); try omega))
    have s5 : Stay nowhere h g5 := (st.trans t4).past' t5 fun q hq => own q hq
    refine lp_next hI (L.length - (i + 1)) (by omega) ⟨i + 1, i + 1, u', ks ++ [⟨x, (L.take (i + 1)).drop fr⟩], rfl, by omega, by omega, fun h => rfl, by simp (disch := first | omega | (simp only [lnv]; omega)) only [wlk, ↓get_put', ↓reduceIte, seval, f0], by simp (disch := first | omega | (simp only [lnv]; omega)) only [wlk, ↓get_put', ↓reduceIte, seval], by simp (disch := first | omega | (simp only [lnv]; omega)) only [wlk, ↓get_put', ↓reduceIte, seval]; rfl, by simp (disch := first | omega | (simp only [lnv]; omega)) only [wlk, ↓get_put', ↓reduceIte, seval, f7], by simp (disch := first | omega | (simp only [lnv]; omega)) only [wlk, ↓get_put', ↓reduceIte, seval, f8]; rfl, s5, by rw [List.flatMap_append]; simpa [bkC] using b5, fun q hq => ?_, hks, by simp; omega, hclose.1, hclose.2.1, hclose.2.2⟩
    rcases ho q hq with h1 | h1
    · exact own q h1
    · have := st.next; have := t4.next; omega
end Go.Proofs.Ytnjgoggnhdpnoaa
