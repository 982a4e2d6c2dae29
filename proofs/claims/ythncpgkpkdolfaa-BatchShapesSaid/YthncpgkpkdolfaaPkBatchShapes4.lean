/- Texts of ours, without what this claim does not use: Wg EntM SealM SealN BaM JrEnt JrCell Base NCell NText NEnt1 NEntR JrSeal NSeal NBa1 NEnt2 NBa2 NBa3 BaN BaO BaSt Wy NBaS NBaT BaR JrBaP NBaU JrBld NBld Wh Knravelinlaw12 NBaP. No condition. -/
import Derived.Test.YthncpgkpkdolfaaPkBatchShapes3
import Derived.Test.YthncpgkpkdolfaaProg
import Derived.KernelRfl
import Derived.Test.YthncpgkpkdolfaaChecked
import Derived.Test.YthncpgkpkdolfaaRows
set_option linter.all false
namespace Go.Ev
open Go
section
variable {h : H}
/-- all cells of a block at once -/
theorem ST.ownAll {P : Program} {N : Nx} {id : B} {xs vs : List V} {x : V} {size fin : Nat} (o : Own h id xs) (hc : cells x = vs) (hs : vs.length = size) (h1 : allOne vs = true) (hj : vs.length ≤ fin) (hfit : vs.length < 2 ^ 37)
    (k : ∀ h', Own h' id vs → Stay (fun i => i = id) h h' → N.go P (.tu []) h') : ST P size (.p id 0 0 fin) x h N := by
  obtain ⟨blk, a1, a2, a3, a4, a5, a6, a7⟩ := o
  obtain ⟨next, floor, heap⟩ := h
  obtain ⟨cur, min, sz, cs, bel, fr⟩ := blk
  simp only at a2 a3 a4 a7
  subst a2; subst a3; subst a4
  obtain ⟨tr, t1, t2, t3⟩ := setList_fine vs 0 cs (by omega)
  obtain ⟨hp, s1, s2, s3⟩ := setK_ok id (⟨0, 0, sz, tr, bel, 0⟩ : Blk) heap
  have e1 : B.geB floor id = true := by cases floor <;> first | rfl | (show Nat.ble _ _ = true; rw [Nat.ble_eq]; exact a5)
  have e2 : Nat.ble (Nat.add 0 vs.length) fin = true := by rw [Nat.ble_eq]; show 0 + vs.length ≤ fin; omega
  have e4 : frOk 0 0 = true := rfl
  have e5 : Nat.beq 0 0 = true := rfl
  have e6 : Nat.ble 0 0 = true := rfl
  have e7 : Nat.beq vs.length size = true := by rw [hs]; simp
  have a1' : heap.get id = some ⟨0, 0, sz, cs, bel, 0⟩ := a1
  refine hm_of (v := .tu []) (h' := ⟨next, floor, hp⟩) (fun q => ?_) (k _ ⟨_, s2, rfl, rfl, rfl, a5, a6, fun i z hz => by have := t2 i z hz; rwa [Nat.zero_add] at this⟩ ⟨rfl, Nat.le_refl _, fun i _ hi => s3 i hi⟩)
  show ifK (Nat.beq (cells x).length size) (fun _ => store ⟨next, floor, heap⟩ id 0 0 fin (cells x) fun h => q (.tu []) h) = _
  rw [hc, e7, ifK_true]
  simp only [store, hK_mk, a1', optK_some, blkK_mk, e5, e6, e1, e2, h1, e4, ifK_true]
  rw [t1, s1]
end
theorem ST.all {P : Program} {h : H} {N : Nx} {id : B} {xs vs : List V} {size fin : Nat} (o : Own h id xs) (hs : vs.length = size) (h1 : allOne vs = true) (hj : vs.length ≤ fin) (hfit : vs.length < 2 ^ 37)
    (k : ∀ h', Own h' id vs → Stay (fun i => i = id) h h' → N.go P (.tu []) h') : ST P size (.p id 0 0 fin) (.a vs) h N := ST.ownAll o rfl hs h1 hj hfit k
theorem re_fl (h : H) : B.val (reFloor h).floor ≤ B.val (reFloor h).next := by cases h; exact Nat.le_refl _
/-- a call in a region that draws -/
theorem CL.stayU {P : Program} {f : FuncId} {vs : List V} {h : H} {e : V} {m : Nat} {l : List CO} {t : F} {K : F → H → Prop} (a : FnOk P f vs (reFloor h) fun y h' => y = e ∧ Stay nowhere (reFloor h) h')
    (k : ∀ h', Stay nowhere h h' → DO P l (put m e t) h' K) : CL P f vs (reFloor h) (.u m l t h K) := ⟨_, a, fun v h' hq => by rw [hq.1, go_u]; exact k _ hq.2.unfloor⟩
/-- a row of structs of n cells each -/
def Ss {α : Type} (n : Nat) (c : α → List V) (h : H) (v : V) (L : List α) : Prop :=
  (v = .l0 ∧ L = []) ∨ ∃ id g off fin cap, v = .l id g off L.length fin cap ∧ off + L.length * n ≤ fin ∧ B.val id < B.val h.next ∧ Row h id g off (L.flatMap c)
section
variable {α : Type} [Inhabited α] {n : Nat} {c : α → List V}
theorem fm_len (hc : ∀ e, (c e).length = n) : ∀ (L : List α), (L.flatMap c).length = L.length * n
  | [] => by simp
  | a :: L => by rw [List.flatMap_cons, List.length_append, hc, fm_len hc L, List.length_cons, Nat.add_mul]; omega
theorem fm_at (hc : ∀ e, (c e).length = n) : ∀ {L : List α} {i : Nat}, i < L.length → ((L.flatMap c).drop (i * n)).take n = c (L.getD i default)
  | [], i, h => by simp at h
  | a :: L, 0, h => by
    rw [List.flatMap_cons, Nat.zero_mul, List.drop_zero, List.take_append_of_le_length (by rw [hc]; exact Nat.le_refl _), List.take_of_length_le (by rw [hc]; exact Nat.le_refl _)]; rfl
  | a :: L, i + 1, h => by
    have e : (i + 1) * n = (c a).length + i * n := by rw [hc, Nat.add_mul]; omega
    rw [List.flatMap_cons, e, ← List.drop_drop, List.drop_left, fm_at hc (by simpa using h)]
    simp [List.getD]
theorem fm_get (hc : ∀ e, (c e).length = n) {L : List α} {i d : Nat} (hi : i < L.length) (hd : d < n) : (L.flatMap c)[i * n + d]? = some ((c (L.getD i default)).getD d .u) := by
  have e : (((L.flatMap c).drop (i * n)).take n)[d]? = (c (L.getD i default))[d]? := by rw [fm_at hc hi]
  rw [List.getElem?_take, if_pos hd, List.getElem?_drop] at e
  rw [e]
  have : d < (c (L.getD i default)).length := by rw [hc]; exact hd
  have e3 : ∀ (x : List V), d < x.length → x[d]? = some (x.getD d .u) := fun x hx => by simp [List.getD, hx]
  exact e3 _ this
theorem fm_take (hc : ∀ e, (c e).length = n) : ∀ (L : List α) (k : Nat), (L.take k).flatMap c = (L.flatMap c).take (k * n)
  | [], k => by simp
  | a :: L, 0 => by simp
  | a :: L, k + 1 => by
    have e : (k + 1) * n = (c a).length + k * n := by rw [hc, Nat.add_mul]; omega
    have e2 : ((c a) ++ L.flatMap c).take ((c a).length + k * n) = c a ++ (L.flatMap c).take (k * n) := by
      rw [List.take_append, Nat.add_sub_cancel_left, List.take_of_length_le (Nat.le_add_right _ _)]
    rw [List.take_succ_cons, List.flatMap_cons, List.flatMap_cons, fm_take hc L k, e, e2]
theorem fm_drop (hc : ∀ e, (c e).length = n) : ∀ (L : List α) (k : Nat), (L.drop k).flatMap c = (L.flatMap c).drop (k * n)
  | [], k => by simp
  | a :: L, 0 => by simp
  | a :: L, k + 1 => by
    rw [List.drop_succ_cons, List.flatMap_cons, fm_drop hc L k, show (k + 1) * n = (c a).length + k * n by rw [hc, Nat.add_mul]; omega, ← List.drop_drop, List.drop_left]
variable {P : Program} {h h' g' : H} {N : Nx} {v : V} {L : List α} {i d : Nat}
theorem Ss.ln (a : Ss n c h v L) : H1 P gLen v g' N = N.go P (.i .i64 (L.length : Int)) g' := by
  rcases a with ⟨rfl, rfl⟩ | ⟨id, g, off, fin, cap, rfl, _⟩
  · exact gLen_l0
  · exact gLen_l
theorem Ss.ix (a : Ss n c h v L) (hi : i < L.length) : IX P n v i g' N = N.go P (.p (lid v) (lg v) (loff v + i * n) (lfin v)) g' := by
  rcases a with ⟨rfl, rfl⟩ | ⟨id, g, off, fin, cap, rfl, _⟩
  · simp at hi
  · exact ix_l hi
theorem Ss.ld (a : Ss n c h v L) (hc : ∀ e, (c e).length = n) (hi : i < L.length) (hd : d < n) : L1 P (lid v) (lg v) (loff v + i * n + d) (lfin v) h N = N.go P ((c (L.getD i default)).getD d .u) h := by
  rcases a with ⟨rfl, rfl⟩ | ⟨id, g, off, fin, cap, rfl, hf, hl, r⟩
  · simp at hi
  · refine hv_of fun k => ?_
    have := r.2 (i * n + d) _ (fm_get hc hi hd)
    rw [← Nat.add_assoc] at this
    have h1 : (i + 1) * n ≤ L.length * n := Nat.mul_le_mul_right n hi
    rw [Nat.add_mul] at h1
    exact load1_cell this (by show off + i * n + d < fin; omega) k
theorem Ss.ldA (a : Ss n c h v L) (hc : ∀ e, (c e).length = n) (hn : 1 ≤ n) (hi : i < L.length) : LN P (lid v) (lg v) (loff v + i * n) (lfin v) n h N = N.go P (.a (c (L.getD i default))) h := by
  rcases a with ⟨rfl, rfl⟩ | ⟨id, g, off, fin, cap, rfl, hf, hl, r⟩
  · simp at hi
  · refine hv_of fun k => ?_
    have h1 : (i + 1) * n ≤ L.length * n := Nat.mul_le_mul_right n hi
    rw [Nat.add_mul] at h1
    have hlen := hc (L.getD i default)
    refine loadN_row (vs := c (L.getD i default)) ⟨fun _ => r.1 ?_, fun j y hy => ?_⟩ hlen (by intro e; rw [e] at hlen; simp at hlen; omega) (by show off + i * n + n ≤ fin; omega) fun vs => k (.a vs)
    · intro e
      have h2 := fm_len hc L
      rw [e] at h2
      have h3 : L.length * n = 0 := h2.symm
      omega
    · have hj : j < n := by rw [← hlen]; exact (List.getElem?_eq_some_iff.1 hy).1
      have e := fm_get hc hi hj
      rw [List.getD, hy] at e
      have := r.2 (i * n + j) _ e
      rw [← Nat.add_assoc] at this
      exact this
theorem Ss.grow (a : Ss n c h v L) (s : Stay nowhere h h') : Ss n c h' v L := by
  rcases a with ⟨rfl, rfl⟩ | ⟨id, g, off, fin, cap, rfl, hf, hl, r⟩
  · exact .inl ⟨rfl, rfl⟩
  · exact .inr ⟨id, g, off, fin, cap, rfl, hf, Nat.lt_of_lt_of_le hl s.next, r.grow s hl⟩
theorem Ss.stay {p : B → Prop} (a : Ss n c h v L) (s : Stay p h h') (hp : ∀ id, isOf v id → ¬ p id) : Ss n c h' v L := by
  rcases a with ⟨rfl, rfl⟩ | ⟨id, g, off, fin, cap, rfl, hf, hl, r⟩
  · exact .inl ⟨rfl, rfl⟩
  · exact .inr ⟨id, g, off, fin, cap, rfl, hf, Nat.lt_of_lt_of_le hl s.next, r.stay s hl (hp id ⟨_, _, _, _, _, rfl⟩)⟩
theorem Ss.nil : Ss n c h .l0 ([] : List α) := .inl ⟨rfl, rfl⟩
/-- of a literal -/
theorem Ss.lit {id : B} {xs : List V} {cap : Option Nat} {len fin : Nat} (o : Own h id xs) (e : xs = L.flatMap c) (hc : ∀ e, (c e).length = n) (hl : len = L.length) (hf : L.length * n ≤ fin) : Ss n c h (.l id 0 0 len fin cap) L := by
  subst hl; subst e
  have r := o.row
  obtain ⟨blk, h1, h2, h3, h4, h5, h6, h7⟩ := o
  exact .inr ⟨id, 0, 0, fin, cap, rfl, by omega, h6, r⟩
/-- of a row that grew -/
theorem Ss.buf {el : Nat} {xs : List V} (b : Buf h el n v xs) (e : xs = L.flatMap c) (hc : ∀ e, (c e).length = n) (hn : 1 ≤ n) : Ss n c h v L := by
  subst e
  rcases b with ⟨rfl, he⟩ | ⟨id, g, m, blk, rfl, h1, h2, h3, h4, h5, h6, h7, h8, h9, h10⟩
  · refine .inl ⟨rfl, ?_⟩
    cases L with
    | nil => rfl
    | cons a L =>
      have := fm_len hc (a :: L)
      rw [he] at this
      have h3 : (L.length + 1) * n = 0 := this.symm
      rw [Nat.add_mul] at h3; omega
  · have hm : m = L.length := by
      rw [fm_len hc] at h2
      exact (Nat.eq_of_mul_eq_mul_right (by omega) h2).symm
    subst hm
    refine .inr ⟨id, g, 0, (L.flatMap c).length, none, rfl, by rw [fm_len hc]; omega, h4, fun _ => ⟨blk, h5, h6.1⟩, fun i y hy => ?_⟩
    unfold Ev.cell cellB
    rw [h5]
    show (if blk.min ≤ g then blk.cells.getN (0 + i) else none) = _
    rw [if_pos h6.1, Nat.zero_add]
    exact h10 i y hy
/-- a slice whose end is where it should be -/
def SwN (n : Nat) (v : V) : Prop := v = .l0 ∨ ∃ id g off m fin cap, v = .l id g off m fin cap ∧ match cap with
  | some c => m ≤ c ∧ (18446744073709551616 ≤ c → m = 0)
  | none => fin = off + m * n
theorem swn_capS {n off k L : Nat} : match capS k L with
  | some c => k ≤ c ∧ (18446744073709551616 ≤ c → k = 0)
  | none => off + k * n = off + k * n := by
  cases k with
  | zero => (cases L with | zero => exact rfl | succ L => exact ⟨Nat.zero_le _, fun _ => rfl⟩)
  | succ k => exact rfl
theorem row_hi {id : B} {g off k : Nat} (hc : ∀ e, (c e).length = n) (r : Row h id g off (L.flatMap c)) : Row h id g off ((L.take k).flatMap c) := by
  rw [fm_take hc]
  refine ⟨fun hne => r.1 fun e => hne (by rw [e]; simp), fun i y hy => r.2 i y ?_⟩
  rw [List.getElem?_take] at hy
  split at hy
  · exact hy
  · cases hy
theorem row_lo {id : B} {g off k : Nat} (hc : ∀ e, (c e).length = n) (r : Row h id g off (L.flatMap c)) : Row h id g (off + k * n) ((L.drop k).flatMap c) := by
  rw [fm_drop hc]
  refine ⟨fun hne => r.1 fun e => hne (by rw [e]; simp), fun i y hy => ?_⟩
  rw [List.getElem?_drop] at hy
  have := r.2 _ y hy
  rwa [← Nat.add_assoc] at this
theorem Ss.hi {kd : IntKind} {k : Nat} (a : Ss n c h v L) (hc : ∀ e, (c e).length = n) (w : SwN n v) (hk : k ≤ L.length) : ∃ u, Ss n c h u (L.take k) ∧ SwN n u ∧ ∀ (g : H) (N : Nx), H2 P (slHiV n) v (.i kd (k : Int)) g N = N.go P u g := by
  have e0 : Nat.ble 0 k = true := by rw [Nat.ble_eq]; omega
  have hkn : k * n ≤ L.length * n := Nat.mul_le_mul_right n hk
  have htk : (L.take k).length = k := by rw [List.length_take]; omega
  rcases a with ⟨rfl, rfl⟩ | ⟨id, g, off, fin, cap, rfl, h2, h3, r⟩
  · have : k = 0 := by simpa using hk
    subst this
    exact ⟨.l0, .inl ⟨rfl, by simp⟩, .inl rfl, fun g N => hv_of fun k => rfl⟩
  rcases w with e | ⟨id', g', off', n', fin', cap', e, hw⟩
  · cases e
  cases e
  cases cap with
  | none =>
    have hw : fin = off + L.length * n := hw
    refine ⟨.l id g off k (off + k * n) (capS k L.length), .inr ⟨id, g, off, off + k * n, capS k L.length, by rw [htk], by rw [htk]; exact Nat.le_refl _, h3, row_hi hc r⟩, .inr ⟨_, _, _, _, _, _, rfl, swn_capS⟩, fun g0 N => hv_of fun q => ?_⟩
    have e1 : Nat.ble k L.length = true := by rw [Nat.ble_eq]; exact hk
    have e2 : Nat.beq fin (Nat.add off (Nat.mul L.length n)) = true := by rw [hw]; exact Nat.beq_refl _
    unfold slHiV
    simp only [vL_l, vI_i, natK_cast, e0, ifK_true]
    show sliceN n id g off L.length fin 0 k q = _
    unfold sliceN
    rw [e1, ifK_true, e2, ifK_true, fN_eq, fN_eq, fN_eq]
    show q (.l id g (off + 0 * n) (k - 0) (off + k * n) (capS k L.length)) = _
    simp
  | some cc =>
    have hw2 : 18446744073709551616 ≤ cc → L.length = 0 := hw.2
    have hw : L.length ≤ cc := hw.1
    have e1 : Nat.ble k cc = true := by rw [Nat.ble_eq]; omega
    cases hfc : flagB cc with
    | true =>
      have hcc := flagB_t hfc
      have hx := hw2 hcc
      have hk0 : k = 0 := by omega
      subst hk0
      refine ⟨.l id g off 0 off (some cc), .inr ⟨id, g, off, off, some cc, by simp, by simp, h3, row_hi hc r⟩, .inr ⟨_, _, _, _, _, _, rfl, Nat.zero_le _, fun _ => rfl⟩, fun g0 N => hv_of fun q => ?_⟩
      unfold slHiV
      simp only [vL_l, vI_i, natK_cast, e0, ifK_true]
      show boolK (flagB cc) (fun _ => ifK (Nat.beq 0 0) fun _ => q (.l id g off 0 off (some cc))) _ = _
      rw [hfc]; rfl
    | false =>
    have hcM := flagB_f hfc
    cases cc with
    | zero =>
      have hx : L.length = 0 := by omega
      have hk0 : k = 0 := by omega
      subst hk0
      refine ⟨.l id g off 0 fin (some 0), .inr ⟨id, g, off, fin, some 0, by simp, by simp; omega, h3, row_hi hc r⟩, .inr ⟨_, _, _, _, _, _, rfl, Nat.le_refl _, fun _ => rfl⟩, fun g0 N => hv_of fun q => ?_⟩
      unfold slHiV
      simp only [vL_l, vI_i, natK_cast, e0, ifK_true]
      rfl
    | succ cc =>
      refine ⟨.l id g off k fin (some (cc + 1)), .inr ⟨id, g, off, fin, some (cc + 1), by rw [htk], by rw [htk]; omega, h3, row_hi hc r⟩, .inr ⟨_, _, _, _, _, _, rfl, by show k ≤ cc + 1; omega, fun h => absurd hcM (Nat.not_lt.2 h)⟩, fun g0 N => hv_of fun q => ?_⟩
      unfold slHiV
      simp only [vL_l, vI_i, natK_cast, e0, ifK_true]
      show boolK (flagB (cc + 1)) _ (fun _ => sliceC n id g off L.length fin (cc + 1) 0 k fun v => q v) = _
      rw [hfc, boolK_false, sliceC_mid hcM (by omega) (by omega)]
      simp
theorem Ss.mid {kd kd' : IntKind} {j k : Nat} (a : Ss n c h v L) (hc : ∀ e, (c e).length = n) (w : SwN n v) (hj : j ≤ k) (hk : k ≤ L.length) : ∃ u, Ss n c h u ((L.take k).drop j) ∧ SwN n u ∧ ∀ (g : H) (N : Nx), H3 P (slBoV n) v (.i kd (j : Int)) (.i kd' (k : Int)) g N = N.go P u g := by
  have e0 : Nat.ble j k = true := by rw [Nat.ble_eq]; omega
  have hkn : k * n ≤ L.length * n := Nat.mul_le_mul_right n hk
  have hjn : j * n + (k - j) * n = k * n := by rw [← Nat.add_mul]; congr 1; omega
  have htk : ((L.take k).drop j).length = k - j := by rw [List.length_drop, List.length_take]; omega
  rcases a with ⟨rfl, rfl⟩ | ⟨id, g, off, fin, cap, rfl, h2, h3, r⟩
  · obtain rfl : k = 0 := by simpa using hk
    obtain rfl : j = 0 := by omega
    exact ⟨.l0, .inl ⟨rfl, by simp⟩, .inl rfl, fun g N => hv_of fun k => rfl⟩
  rcases w with e | ⟨id', g', off', n', fin', cap', e, hw⟩
  · cases e
  cases e
  have hr := row_lo hc (row_hi (k := k) hc r) (k := j)
  cases cap with
  | none =>
    have hw : fin = off + L.length * n := hw
    refine ⟨.l id g (off + j * n) (k - j) (off + k * n) (capS k L.length), .inr ⟨id, g, off + j * n, off + k * n, capS k L.length, by rw [htk], by rw [htk]; omega, h3, hr⟩, .inr ⟨_, _, _, _, _, _, rfl, ?_⟩, fun g0 N => hv_of fun q => ?_⟩
    · cases hk0 : k with
      | zero => (cases L.length with | zero => (show _ = _; rw [hk0] at hjn; omega) | succ l => exact ⟨by omega, fun _ => by omega⟩)
      | succ m => (show _ = _; rw [← hk0]; omega)
    have e1 : Nat.ble k L.length = true := by rw [Nat.ble_eq]; exact hk
    have e2 : Nat.beq fin (Nat.add off (Nat.mul L.length n)) = true := by rw [hw]; exact Nat.beq_refl _
    unfold slBoV
    simp only [vL_l, vI_i, natK_cast, e0, ifK_true]
    show sliceN n id g off L.length fin j k q = _
    unfold sliceN
    rw [e1, ifK_true, e2, ifK_true, fN_eq, fN_eq, fN_eq]
    rfl
  | some cc =>
    have hw2 : 18446744073709551616 ≤ cc → L.length = 0 := hw.2
    have hw : L.length ≤ cc := hw.1
    cases hfc : flagB cc with
    | true =>
      have hcc := flagB_t hfc
      have hx := hw2 hcc
      obtain rfl : k = 0 := by omega
      obtain rfl : j = 0 := by omega
      refine ⟨.l id g off 0 off (some cc), .inr ⟨id, g, off, off, some cc, by simp, by simp, h3, ?_⟩, .inr ⟨_, _, _, _, _, _, rfl, Nat.zero_le _, fun _ => rfl⟩, fun g0 N => hv_of fun q => ?_⟩
      · simpa using hr
      unfold slBoV
      simp only [vL_l, vI_i, natK_cast, e0, ifK_true]
      show boolK (flagB cc) (fun _ => ifK (Nat.beq 0 0) fun _ => q (.l id g off 0 off (some cc))) _ = _
      rw [hfc]; rfl
    | false =>
    have hcM := flagB_f hfc
    by_cases hjc : j = cc
    · have hx : k = j := by omega
      refine ⟨.l id g off 0 fin (some 0), .inr ⟨id, g, off, fin, some 0, by rw [htk, hx]; simp, by rw [htk, hx]; simp; omega, h3, ?_⟩, .inr ⟨_, _, _, _, _, _, rfl, Nat.le_refl _, fun _ => rfl⟩, fun g0 N => hv_of fun q => ?_⟩
      · rw [List.drop_eq_nil_of_le (by rw [List.length_take]; omega)]
        exact ⟨fun hne => absurd rfl hne, fun i v hv => by simp at hv⟩
      · unfold slBoV
        simp only [vL_l, vI_i, natK_cast, e0, ifK_true]
        show boolK (flagB cc) _ (fun _ => sliceC n id g off L.length fin cc j k fun v => q v) = _
        rw [hfc, boolK_false]
        have eM : Nat.ble (Nat.succ cc) 18446744073709551616 = true := by rw [Nat.ble_eq]; exact hcM
        have e1 : Nat.ble k cc = true := by rw [Nat.ble_eq]; omega
        unfold sliceC
        rw [eM, ifK_true]
        have e2 : Nat.beq j cc = true := by rw [hjc]; exact Nat.beq_refl _
        rw [e1, ifK_true, e2]; rfl
    · refine ⟨.l id g (off + j * n) (k - j) fin (some (cc - j)), .inr ⟨id, g, off + j * n, fin, some (cc - j), by rw [htk], by rw [htk]; omega, h3, hr⟩, .inr ⟨_, _, _, _, _, _, rfl, by show k - j ≤ cc - j; omega, fun h => absurd hcM (by omega)⟩, fun g0 N => hv_of fun q => ?_⟩
      unfold slBoV
      simp only [vL_l, vI_i, natK_cast, e0, ifK_true]
      show boolK (flagB cc) _ (fun _ => sliceC n id g off L.length fin cc j k fun v => q v) = _
      rw [hfc, boolK_false, sliceC_mid hcM (by omega) (by omega)]
theorem Ss.lo {kd : IntKind} {k : Nat} (a : Ss n c h v L) (hc : ∀ e, (c e).length = n) (w : SwN n v) (hk : k ≤ L.length) : ∃ u, Ss n c h u (L.drop k) ∧ SwN n u ∧ ∀ (g : H) (N : Nx), H2 P (slLoV n) v (.i kd (k : Int)) g N = N.go P u g := by
  have e0 : Nat.ble k L.length = true := by rw [Nat.ble_eq]; omega
  have hkn : k * n + (L.length - k) * n = L.length * n := by rw [← Nat.add_mul]; congr 1; omega
  have htk : (L.drop k).length = L.length - k := List.length_drop
  rcases a with ⟨rfl, rfl⟩ | ⟨id, g, off, fin, cap, rfl, h2, h3, r⟩
  · have : k = 0 := by simpa using hk
    subst this
    exact ⟨.l0, .inl ⟨rfl, by simp⟩, .inl rfl, fun g N => hv_of fun k => rfl⟩
  rcases w with e | ⟨id', g', off', n', fin', cap', e, hw⟩
  · cases e
  cases e
  cases cap with
  | none =>
    have hw : fin = off + L.length * n := hw
    refine ⟨.l id g (off + k * n) (L.length - k) (off + L.length * n) none, .inr ⟨id, g, off + k * n, off + L.length * n, none, by rw [htk], by rw [htk]; omega, h3, row_lo hc r⟩, .inr ⟨_, _, _, _, _, _, rfl, by show off + L.length * n = off + k * n + (L.length - k) * n; omega⟩, fun g0 N => hv_of fun q => ?_⟩
    have e1 : Nat.ble L.length L.length = true := by rw [Nat.ble_eq]; exact Nat.le_refl _
    have e2 : Nat.beq fin (Nat.add off (Nat.mul L.length n)) = true := by rw [hw]; exact Nat.beq_refl _
    unfold slLoV
    simp only [vL_l, vI_i, natK_cast, e0, ifK_true]
    show sliceN n id g off L.length fin k L.length q = _
    unfold sliceN
    rw [e1, ifK_true, e2, ifK_true, fN_eq, fN_eq, fN_eq, capS_self]
    rfl
  | some cc =>
    have hw2 : 18446744073709551616 ≤ cc → L.length = 0 := hw.2
    have hw : L.length ≤ cc := hw.1
    have e1 : Nat.ble L.length cc = true := by rw [Nat.ble_eq]; omega
    cases hfc : flagB cc with
    | true =>
      have hcc := flagB_t hfc
      have hx := hw2 hcc
      have hk0 : k = 0 := by omega
      subst hk0
      refine ⟨.l id g off 0 off (some cc), .inr ⟨id, g, off, off, some cc, by rw [htk, hx], by rw [htk, hx]; simp, h3, ?_⟩, .inr ⟨_, _, _, _, _, _, rfl, Nat.zero_le _, fun _ => rfl⟩, fun g0 N => hv_of fun q => ?_⟩
      · rw [List.drop_eq_nil_of_le (by omega)]
        exact ⟨fun hne => absurd rfl hne, fun i v hv => by simp at hv⟩
      · unfold slLoV
        simp only [vL_l, vI_i, natK_cast, e0, ifK_true]
        show boolK (flagB cc) (fun _ => ifK (Nat.beq L.length 0) fun _ => q (.l id g off 0 off (some cc))) _ = _
        rw [hfc, hx]; rfl
    | false =>
    have hcM := flagB_f hfc
    have eM : Nat.ble (Nat.succ cc) 18446744073709551616 = true := by rw [Nat.ble_eq]; exact hcM
    by_cases hkc : k = cc
    · have hx : L.length = k := by omega
      refine ⟨.l id g off 0 fin (some 0), .inr ⟨id, g, off, fin, some 0, by rw [htk, hx]; simp, by rw [htk, hx]; simp; omega, h3, ?_⟩, .inr ⟨_, _, _, _, _, _, rfl, Nat.le_refl _, fun _ => rfl⟩, fun g0 N => hv_of fun q => ?_⟩
      · rw [List.drop_eq_nil_of_le (by omega)]
        exact ⟨fun hne => absurd rfl hne, fun i v hv => by simp at hv⟩
      · unfold slLoV
        simp only [vL_l, vI_i, natK_cast, e0, ifK_true]
        show boolK (flagB cc) _ (fun _ => sliceC n id g off L.length fin cc k L.length fun v => q v) = _
        rw [hfc, boolK_false]
        unfold sliceC
        rw [eM, ifK_true]
        have e2 : Nat.beq k cc = true := by rw [hkc]; exact Nat.beq_refl _
        rw [e1, ifK_true, e2]; rfl
    · refine ⟨.l id g (off + k * n) (L.length - k) fin (some (cc - k)), .inr ⟨id, g, off + k * n, fin, some (cc - k), by rw [htk], by rw [htk]; omega, h3, row_lo hc r⟩, .inr ⟨_, _, _, _, _, _, rfl, by show L.length - k ≤ cc - k; omega, fun h => absurd hcM (by omega)⟩, fun g0 N => hv_of fun q => ?_⟩
      unfold slLoV
      simp only [vL_l, vI_i, natK_cast, e0, ifK_true]
      show boolK (flagB cc) _ (fun _ => sliceC n id g off L.length fin cc k L.length fun v => q v) = _
      rw [hfc, boolK_false, sliceC_mid hcM (by omega) (by omega)]
/-- the cells that are appended -/
theorem new_ss (a : Ss n c h v L) (hc : ∀ e, (c e).length = n) (hn : 1 ≤ n) (k : Nat → List V → Bool) : newCells n v h k = k L.length (L.flatMap c) := by
  rcases a with ⟨rfl, rfl⟩ | ⟨id, g, off, fin, cap, rfl, hf, hl, r⟩
  · rfl
  · have hlen := fm_len hc L
    cases hm : L.length with
    | zero =>
      have : L = [] := List.eq_nil_of_length_eq_zero hm
      subst this; rfl
    | succ m =>
      rw [hm] at hlen hf
      show loadN h id g off fin (Nat.mul (m + 1) n) (fun vs => k (m + 1) vs) = _
      have hne : L.flatMap c ≠ [] := by
        intro e; rw [e] at hlen
        have h3 : (m + 1) * n = 0 := hlen.symm
        rw [Nat.add_mul] at h3; omega
      rw [show Nat.mul (m + 1) n = (L.flatMap c).length by rw [hlen]; rfl, loadN_row r rfl hne (by rw [hlen]; omega)]
end
end Go.Ev

set_option linter.all false
namespace Go.Ev
open Go
structure Ent where
  key : List UInt8
  seq : Int
  del : Bool
  val : List UInt8
deriving DecidableEq
def entZ : Ent := ⟨[], 0, false, []⟩
instance : Inhabited Ent := ⟨entZ⟩
def entC (e : Ent) : List V := [sv e.key, .i .i64 e.seq, .b e.del, sv e.val]
theorem entC_len (e : Ent) : (entC e).length = 4 := rfl
def Es (h : H) (v : V) (L : List Ent) : Prop := Ss 4 entC h v L
section
variable {P : Program} {h h' g' : H} {N : Nx} {v : V} {L : List Ent} {i d : Nat}
theorem Es.ln (a : Es h v L) : H1 P gLen v g' N = N.go P (.i .i64 (L.length : Int)) g' := Ss.ln a
theorem Es.l0 (a : Es h v L) (hi : i < L.length) : L1 P (lid v) (lg v) (loff v + i * 4) (lfin v) h N = N.go P (sv (L.getD i default).key) h := Ss.ld (d := 0) a entC_len hi (by omega)
theorem Es.l2 (a : Es h v L) (hi : i < L.length) : L1 P (lid v) (lg v) (loff v + i * 4 + 2) (lfin v) h N = N.go P (.b (L.getD i default).del) h := Ss.ld (d := 2) a entC_len hi (by omega)
theorem Es.l3 (a : Es h v L) (hi : i < L.length) : L1 P (lid v) (lg v) (loff v + i * 4 + 3) (lfin v) h N = N.go P (sv (L.getD i default).val) h := Ss.ld (d := 3) a entC_len hi (by omega)
theorem Es.grow (a : Es h v L) (s : Stay nowhere h h') : Es h' v L := Ss.grow a s
end
/-- of a write -/
def isW (key : List UInt8) (del : Bool) (val : List UInt8) : Bool := decide (1 ≤ key.length ∧ key.length ≤ 13 ∧ val.length ≤ 24 ∧ (del = true → val = []))
section
variable {k v : List UInt8} {d : Bool}
theorem isW_lo (h : (k.length : Int) < 1) : isW k d v = false := by unfold isW; rw [decide_eq_false_iff_not]; rintro ⟨a, _⟩; omega
theorem isW_hi (h : 13 < (k.length : Int)) : isW k d v = false := by unfold isW; rw [decide_eq_false_iff_not]; rintro ⟨_, a, _⟩; omega
theorem isW_t (h1 : 1 ≤ (k.length : Int)) (h2 : (k.length : Int) ≤ 13) (hd : d = true) : isW k d v = decide (v = []) := by
  subst hd; unfold isW; congr 1
  refine propext ⟨fun h => h.2.2.2 rfl, fun e => ?_⟩
  subst e; exact ⟨by omega, by omega, by simp, fun _ => rfl⟩
theorem isW_f (h1 : 1 ≤ (k.length : Int)) (h2 : (k.length : Int) ≤ 13) (hd : d = false) : isW k d v = decide ((v.length : Int) ≤ 24) := by
  subst hd; unfold isW; congr 1
  exact propext ⟨fun h => by omega, fun e => ⟨by omega, by omega, by omega, fun h => by cases h⟩⟩
end
theorem bl_cons {x y : UInt8} {a b : List UInt8} : Op.bytesLess (x :: a) (y :: b) = true ↔ x.toNat < y.toNat ∨ (x = y ∧ Op.bytesLess a b = true) := by
  simp only [Op.bytesLess, Bool.or_eq_true, Bool.and_eq_true, decide_eq_true_eq, beq_iff_eq, UInt8.lt_iff_toNat_lt]
theorem bl_irr : ∀ l : List UInt8, Op.bytesLess l l = false
  | [] => rfl
  | c :: l => by
    cases h : Op.bytesLess (c :: l) (c :: l) with
    | false => rfl
    | true =>
      rcases bl_cons.1 h with h | ⟨_, h⟩
      · omega
      · rw [bl_irr l] at h; cases h
theorem bl_trans : ∀ {a b c : List UInt8}, Op.bytesLess a b = true → Op.bytesLess b c = true → Op.bytesLess a c = true
  | a, [], c, h, _ => by cases a <;> cases h
  | _, _ :: _, [], _, h => by cases h
  | [], _ :: _, _ :: _, _, _ => rfl
  | x :: a, y :: b, z :: c, h, g => by
    rcases bl_cons.1 h with h1 | ⟨h1, h2⟩ <;> rcases bl_cons.1 g with g1 | ⟨g1, g2⟩
    · exact bl_cons.2 (.inl (by omega))
    · exact bl_cons.2 (.inl (by rw [← g1]; exact h1))
    · exact bl_cons.2 (.inl (by rw [h1]; exact g1))
    · exact bl_cons.2 (.inr ⟨h1.trans g1, bl_trans h2 g2⟩)
theorem bl_asym {a b : List UInt8} (h : Op.bytesLess a b = true) : Op.bytesLess b a = false := by
  cases g : Op.bytesLess b a with
  | false => rfl
  | true => have := bl_trans h g; rw [bl_irr] at this; cases this
theorem bl_total : ∀ {a b : List UInt8}, a ≠ b → Op.bytesLess a b = true ∨ Op.bytesLess b a = true
  | [], [], h => absurd rfl h
  | [], _ :: _, _ => .inl rfl
  | _ :: _, [], _ => .inr rfl
  | x :: a, y :: b, h => by
    by_cases e : x = y
    · subst e
      rcases bl_total (a := a) (b := b) (fun e => h (by rw [e])) with g | g
      · exact .inl (bl_cons.2 (.inr ⟨rfl, g⟩))
      · exact .inr (bl_cons.2 (.inr ⟨rfl, g⟩))
    · have : x.toNat ≠ y.toNat := fun g => e (UInt8.toNat_inj.1 g)
      rcases Nat.lt_or_ge x.toNat y.toNat with g | g
      · exact .inl (bl_cons.2 (.inl g))
      · exact .inr (bl_cons.2 (.inl (by omega)))
section
variable {s k v : List UInt8} {n m j : Nat} {q e : Int}
end
end Go.Ev

set_option linter.all false
namespace Go.Ev
open Go
/-- the sum's two parts, one byte further -/
def adlStep (p : Nat × Nat) (c : UInt8) : Nat × Nat := ((p.1 + c.toNat) % 65521, (p.2 + (p.1 + c.toNat) % 65521) % 65521)
def adlF (p : Nat × Nat) (l : List UInt8) : Nat × Nat := l.foldl adlStep p
def adl (l : List UInt8) : Nat × Nat := adlF (1, 0) l
def sumB (l : List UInt8) : Nat := (adl l).2 * 65536 + (adl l).1
theorem adlF_append (p : Nat × Nat) (a b : List UInt8) : adlF p (a ++ b) = adlF (adlF p a) b := List.foldl_append
theorem adlF_lt {p : Nat × Nat} (h1 : p.1 < 65521) (h2 : p.2 < 65521) : ∀ l, (adlF p l).1 < 65521 ∧ (adlF p l).2 < 65521 := by
  intro l
  induction l generalizing p with
  | nil => exact ⟨h1, h2⟩
  | cons c l ih => exact ih (p := adlStep p c) (Nat.mod_lt _ (by omega)) (Nat.mod_lt _ (by omega))
theorem adl_lt (l : List UInt8) : (adl l).1 < 65521 ∧ (adl l).2 < 65521 := adlF_lt (by decide) (by decide) l
theorem sumB_lt (l : List UInt8) : sumB l < 4294967296 := by
  have := adl_lt l
  unfold sumB; omega
theorem sumB_snoc (l : List UInt8) (c : UInt8) : adl (l ++ [c]) = adlStep (adl l) c := by
  unfold adl; rw [adlF_append]; rfl
/-- four bytes of a number, the highest first -/
def fourB (n : Nat) : List UInt8 := [UInt8.ofNat (n / 16777216), UInt8.ofNat (n / 65536), UInt8.ofNat (n / 256), UInt8.ofNat n]
theorem fourB_len (n : Nat) : (fourB n).length = 4 := rfl
def sealB (l : List UInt8) : List UInt8 := numB l.length ++ fourB (sumB l) ++ l
theorem sealB_len (l : List UInt8) : (sealB l).length = (numB l.length).length + 4 + l.length := by
  unfold sealB; rw [List.length_append, List.length_append, fourB_len]
end Go.Ev

set_option linter.all false
namespace Go.Ev
open Go
theorem adl_take {l : List UInt8} {i : Nat} (h : i < l.length) : adl (l.take (i + 1)) = adlStep (adl (l.take i)) (l.getD i 0) := by
  rw [← sumB_snoc]
  congr 1
  rw [List.take_succ_eq_append_getElem h]
  simp [List.getD, h]
end Go.Ev

set_option linter.all false
namespace Go.Ev
open Go
structure Wri where
  key : List UInt8
  del : Bool
  val : List UInt8
deriving DecidableEq
def wriZ : Wri := ⟨[], false, []⟩
instance : Inhabited Wri := ⟨wriZ⟩
def wriC (w : Wri) : List V := [sv w.key, .b w.del, sv w.val]
theorem wriC_len (w : Wri) : (wriC w).length = 3 := rfl
def Ws (h : H) (v : V) (L : List Wri) : Prop := Ss 3 wriC h v L
section
variable {P : Program} {h h' g' : H} {N : Nx} {v : V} {L : List Wri} {i d : Nat}
theorem Ws.ln (a : Ws h v L) : H1 P gLen v g' N = N.go P (.i .i64 (L.length : Int)) g' := Ss.ln a
theorem Ws.ix (a : Ws h v L) (hi : i < L.length) : IX P 3 v i g' N = N.go P (.p (lid v) (lg v) (loff v + i * 3) (lfin v)) g' := Ss.ix a hi
theorem Ws.l0 (a : Ws h v L) (hi : i < L.length) : L1 P (lid v) (lg v) (loff v + i * 3) (lfin v) h N = N.go P (sv (L.getD i default).key) h := Ss.ld (d := 0) a wriC_len hi (by omega)
theorem Ws.l2 (a : Ws h v L) (hi : i < L.length) : L1 P (lid v) (lg v) (loff v + i * 3 + 2) (lfin v) h N = N.go P (sv (L.getD i default).val) h := Ss.ld (d := 2) a wriC_len hi (by omega)
theorem Ws.la (a : Ws h v L) (hi : i < L.length) : LN P (lid v) (lg v) (loff v + i * 3) (lfin v) 3 h N = N.go P (.a [sv (L.getD i default).key, .b (L.getD i default).del, sv (L.getD i default).val]) h := Ss.ldA a wriC_len (by omega) hi
theorem Ws.grow (a : Ws h v L) (s : Stay nowhere h h') : Ws h' v L := Ss.grow a s
end
theorem take_wri {L : List Wri} {i : Nat} (hi : i < L.length) : L.take (i + 1) = L.take i ++ [L.getD i default] := by
  rw [List.take_succ]; simp [List.getD, hi]
def isR (w : Wri) : Bool := isW w.key w.del w.val
/-- the i-th one is a write, its key above the one ahead -/
def upA (L : List Wri) (j : Nat) : Bool := isR (L.getD j default) && (decide (j = 0) || Op.bytesLess (L.getD (j - 1) default).key (L.getD j default).key)
def upU (L : List Wri) (i : Nat) : Bool := (List.range i).all (upA L)
def isB (L : List Wri) : Bool := upU L L.length && decide (L.length ≤ 8)
theorem upU_succ (L : List Wri) (i : Nat) : upU L (i + 1) = (upU L i && upA L i) := by unfold upU; rw [List.range_succ, List.all_append]; simp
theorem upU_at {L : List Wri} {i : Nat} (h : upU L i = true) {j : Nat} (hj : j < i) : upA L j = true := (List.all_eq_true.1 h) j (List.mem_range.2 hj)
theorem upU_no {L : List Wri} {i : Nat} (hi : i < L.length) (h : upA L i = false) : isB L = false := by
  unfold isB upU
  rw [show ((List.range L.length).all (upA L)) = false from List.all_eq_false.2 ⟨i, List.mem_range.2 hi, by rw [h]; simp⟩]; rfl
theorem isB_len {L : List Wri} (h : isB L = true) : L.length ≤ 8 := by
  unfold isB at h; rw [Bool.and_eq_true] at h; exact of_decide_eq_true h.2
theorem isB_up {L : List Wri} (h : isB L = true) {j : Nat} (hj : j < L.length) : upA L j = true := by
  unfold isB at h; rw [Bool.and_eq_true] at h; exact upU_at h.1 hj
theorem upA_is {L : List Wri} {j : Nat} (h : upA L j = true) : isR (L.getD j default) = true := by unfold upA at h; rw [Bool.and_eq_true] at h; exact h.1
theorem isR_len {w : Wri} (h : isR w = true) : 1 ≤ w.key.length ∧ w.key.length ≤ 13 ∧ w.val.length ≤ 24 ∧ (w.del = true → w.val = []) := by
  unfold isR isW at h; exact of_decide_eq_true h
def leB (a b : List UInt8) : Bool := Op.bytesLess a b || decide (a = b)
def wiS (w : Wri) (p : List Wri × Bool) (x : Wri) : List Wri × Bool :=
  let q := if !p.2 && leB w.key x.key then (p.1 ++ [w], true) else p
  if x.key = w.key then q else (q.1 ++ [x], q.2)
def wiU (w : Wri) (L : List Wri) : List Wri × Bool := L.foldl (wiS w) ([], false)
def withB (L : List Wri) (w : Wri) : List Wri := if (wiU w L).2 then (wiU w L).1 else (wiU w L).1 ++ [w]
def neatB (L : List Wri) : List Wri := L.foldl withB []
theorem neatB_take {L : List Wri} {i : Nat} (hi : i < L.length) : neatB (L.take (i + 1)) = withB (neatB (L.take i)) (L.getD i default) := by
  rw [take_wri hi]; unfold neatB; rw [List.foldl_append]; rfl
def oneB (w : Wri) : List UInt8 := textB w.key ++ (if w.del then [1] else 0 :: textB w.val)
def rowsB (L : List Wri) : List UInt8 := numB L.length ++ L.flatMap oneB
def batB (seq : Int) (L : List Wri) : List UInt8 := sealB (numB seq.toNat ++ rowsB L)
def okB12 (seq : Int) (L : List Wri) : Bool := isB L && decide (1 ≤ seq ∧ seq ≤ 1000000)
def bytB (seq : Int) (L : List Wri) : List UInt8 × Int := if okB12 seq L then (batB seq L, 0) else ([], 10)
def entB (seq : Int) (L : List Wri) : List Ent := if isB L then L.map (fun w => ⟨w.key, seq, w.del, w.val⟩) else []
end Go.Ev

set_option maxRecDepth 1000000
set_option linter.all false
namespace Go.Proofs.Ythncpgkpkdolfaa
open Go Go.Ev
noncomputable abbrev s36_0 : CC := (CC.seq (CC.region [(wB 2 (doMove (O.c (V.b Bool.false))))]) CC.ret)
noncomputable abbrev s36_1 : CC := (CC.cond (tm 12) s36_0 CC.skip)
noncomputable abbrev s36_2 : CC := (CC.seq (CC.region [(wB 3 (doFieldAddr 0 (tm 1))), (wB 4 (doLoad (tm 3))), (wB 5 (doLenS (tm 4))), (wB 6 (bin2 fLss (tm 5) (oN 1))), (wB 7 (doMove (tm 6))), (wG 7 false 8 (doFieldAddr 0 (tm 1))), (wG 7 false 9 (doLoad (tm 8))), (wG 7 false 10 (doLenS (tm 9))), (wG 7 false 11 (bin2 fGtr (tm 10) (oN 13))), (wB 12 (doPick (tm 7) (O.c (V.b Bool.true)) (tm 11)))]) s36_1)
noncomputable abbrev s36_3 : CC := (CC.seq (CC.region [(wB 15 (doFieldAddr 2 (tm 1))), (wB 16 (doLoad (tm 15))), (wB 17 (doSCmp eqS (tm 16) (O.c (V.s 0 0)))), (wB 2 (doMove (tm 17)))]) CC.ret)
noncomputable abbrev s36_4 : CC := (CC.cond (tm 14) s36_3 CC.skip)
noncomputable abbrev s36_5 : CC := (CC.seq (CC.region [(wB 13 (doFieldAddr 1 (tm 1))), (wB 14 (doLoad (tm 13)))]) s36_4)
noncomputable abbrev s36_6 : CC := (CC.seq (CC.region [(wB 18 (doFieldAddr 2 (tm 1))), (wB 19 (doLoad (tm 18))), (wB 20 (doLenS (tm 19))), (wB 21 (bin2 fLeq (tm 20) (oN 24))), (wB 2 (doMove (tm 21)))]) CC.ret)
noncomputable abbrev s36_7 : CC := (CC.seq s36_5 s36_6)
noncomputable abbrev s36_8 : CC := (CC.seq s36_2 s36_7)
noncomputable abbrev b36 : CC := (CC.seq (CC.region [(wB 1 (doBox 49 (tm 0))), (wB 2 (doMove (O.c (V.b Bool.false))))]) s36_8)
theorem c36 : compFn Try.prog 36 = ⟨22, b36, [(Rs.tmp (slOf 2))]⟩ := by kernel_rfl
end Go.Proofs.Ythncpgkpkdolfaa

set_option maxRecDepth 1000000
set_option linter.all false
namespace Go.Proofs.Ythncpgkpkdolfaa
open Go Go.Ev
noncomputable abbrev s24_0 : CC := (CC.cond (tm 7) CC.skip (CC.exit 0))
noncomputable abbrev s24_1 : CC := (CC.seq (CC.region [(wB 6 (doMove (tm 0))), (wB 7 (bin2 fGtr (tm 6) (oN 0)))]) s24_0)
noncomputable abbrev s24_2 : CC := (CC.region [(wB 12 (doMove (tm 4))), (wB 13 (doMove (tm 0))), (wB 14 (doConv IntKind.u8 (tm 13))), (wB 15 (doIndexAddrArr 9 1 (tm 3) (tm 12))), (CO.mk G.none D.none Bool.true (CR.mk (doStore 1 (tm 15) (tm 14))))])
noncomputable abbrev s24_3 : CC := (CC.seq (CC.region [(wB 10 (doMove (tm 4))), (wB 11 (bin2 fSub (tm 10) (oN 1))), (wB 4 (doMove (tm 11)))]) s24_2)
noncomputable abbrev s24_4 : CC := (CC.block 1 s24_3)
noncomputable abbrev s24_5 : CC := (CC.region [(wB 8 (doMove (tm 0))), (wB 9 (doShift shrF (tm 8) (O.c (V.i IntKind.u64 (Int.ofNat 8))))), (wB 0 (doMove (tm 9)))])
noncomputable abbrev s24_6 : CC := (CC.seq s24_4 s24_5)
noncomputable abbrev l24_0 : CC := (CC.seq s24_1 s24_6)
noncomputable abbrev s24_7 : CC := (CC.loop l24_0)
noncomputable abbrev s24_8 : CC := (CC.block 0 s24_7)
noncomputable abbrev s24_9 : CC := (CC.seq (CC.region [(wB 24 (doMove (tm 4))), (wB 25 (doSliceArr 9 1 (tm 3) (some (tm 24)) none)), (wB 26 (doB2S (tm 25))), (wB 2 (doMove (tm 26)))]) CC.ret)
noncomputable abbrev s24_10 : CC := (CC.seq (CC.region [(wB 20 (doMove (tm 4))), (wB 21 (doMove (tm 5))), (wB 22 (doConv IntKind.u8 (tm 21))), (wB 23 (doIndexAddrArr 9 1 (tm 3) (tm 20))), (CO.mk G.none D.none Bool.true (CR.mk (doStore 1 (tm 23) (tm 22))))]) s24_9)
noncomputable abbrev s24_11 : CC := (CC.seq (CC.region [(wB 18 (doMove (tm 4))), (wB 19 (bin2 fSub (tm 18) (oN 1))), (wB 4 (doMove (tm 19)))]) s24_10)
noncomputable abbrev s24_12 : CC := (CC.seq (CC.region [(wB 16 (doMove (tm 4))), (wB 17 (bin2 fSub (oN 9) (tm 16))), (wB 5 (doMove (tm 17)))]) s24_11)
noncomputable abbrev s24_13 : CC := (CC.seq s24_8 s24_12)
noncomputable abbrev s24_14 : CC := (CC.seq (CC.region [(wB 4 (doMove (oN 9)))]) s24_13)
noncomputable abbrev s24_15 : CC := (CC.seq (CC.region [(wB 3 (doAlloc 80 [(V.i IntKind.u8 (Int.ofNat 0)), (V.i IntKind.u8 (Int.ofNat 0)), (V.i IntKind.u8 (Int.ofNat 0)), (V.i IntKind.u8 (Int.ofNat 0)), (V.i IntKind.u8 (Int.ofNat 0)), (V.i IntKind.u8 (Int.ofNat 0)), (V.i IntKind.u8 (Int.ofNat 0)), (V.i IntKind.u8 (Int.ofNat 0)), (V.i IntKind.u8 (Int.ofNat 0))]))]) s24_14)
noncomputable abbrev b24 : CC := (CC.seq (CC.region [(wB 2 (doMove (O.c (V.s 0 0))))]) s24_15)
theorem c24 : compFn Try.prog 24 = ⟨27, b24, [(Rs.tmp (slOf 2))]⟩ := by kernel_rfl
noncomputable abbrev s55_0 : CC := (CC.cond (tm 10) CC.skip (CC.exit 0))
noncomputable abbrev s55_1 : CC := (CC.seq (CC.region [(wB 7 (doMove (tm 5))), (wB 8 (doMove (tm 0))), (wB 9 (doLenS (tm 8))), (wB 10 (bin2 fLss (tm 7) (tm 9)))]) s55_0)
noncomputable abbrev s55_2 : CC := (CC.cond (tm 22) (CC.exit 0) CC.skip)
noncomputable abbrev s55_3 : CC := (CC.seq (CC.region [(wB 23 (doMove (tm 4))), (wB 24 (bin2 fGtr (tm 23) (oN 36028797018963967))), (wB 22 (doMove (tm 24)))]) s55_2)
noncomputable abbrev s55_4 : CC := (CC.cond (tm 15) (CC.exit 0) s55_3)
noncomputable abbrev s55_5 : CC := (CC.seq (CC.region [(wB 16 (doMove (tm 5))), (wB 17 (bin2 fEql (tm 16) (oN 0))), (wB 18 (doMove (tm 17))), (wG 18 true 19 (doMove (tm 6))), (wG 18 true 20 (bin2 fEql (tm 19) (oN 0))), (wB 21 (doPick (tm 18) (tm 20) (O.c (V.b Bool.false)))), (wB 15 (doMove (tm 21)))]) s55_4)
noncomputable abbrev s55_6 : CC := (CC.block 2 s55_5)
noncomputable abbrev s55_7 : CC := (CC.region [(wB 29 (doMove (tm 5))), (wB 30 (bin2 fAdd (tm 29) (oN 1))), (wB 5 (doMove (tm 30)))])
noncomputable abbrev s55_8 : CC := (CC.seq (CC.region [(wB 25 (doMove (tm 4))), (wB 26 (doShift shlF (tm 25) (O.c (V.i IntKind.u64 (Int.ofNat 8))))), (wB 27 (doMove (tm 6))), (wB 28 (bin2 fOr (tm 26) (tm 27))), (wB 4 (doMove (tm 28)))]) s55_7)
noncomputable abbrev s55_9 : CC := (CC.seq s55_6 s55_8)
noncomputable abbrev s55_10 : CC := (CC.seq (CC.region [(wB 11 (doMove (tm 0))), (wB 12 (doMove (tm 5))), (wB 13 (doSIndex (tm 11) (tm 12))), (wB 14 (doConv IntKind.i64 (tm 13))), (wB 6 (doMove (tm 14)))]) s55_9)
noncomputable abbrev s55_11 : CC := (CC.block 1 s55_10)
noncomputable abbrev l55_0 : CC := (CC.seq s55_1 s55_11)
noncomputable abbrev s55_12 : CC := (CC.loop l55_0)
noncomputable abbrev s55_13 : CC := (CC.block 0 s55_12)
noncomputable abbrev s55_14 : CC := (CC.seq (CC.region [(wB 2 (doMove (oN 0))), (wB 3 (doMove (O.c (V.b Bool.false))))]) CC.ret)
noncomputable abbrev s55_15 : CC := (CC.cond (tm 34) s55_14 CC.skip)
noncomputable abbrev s55_16 : CC := (CC.seq (CC.region [(wB 31 (doMove (tm 5))), (wB 32 (doMove (tm 0))), (wB 33 (doLenS (tm 32))), (wB 34 (bin2 fLss (tm 31) (tm 33)))]) s55_15)
noncomputable abbrev s55_17 : CC := (CC.seq (CC.region [(wB 35 (doMove (tm 4))), (wB 2 (doMove (tm 35))), (wB 3 (doMove (O.c (V.b Bool.true))))]) CC.ret)
noncomputable abbrev s55_18 : CC := (CC.seq s55_16 s55_17)
noncomputable abbrev s55_19 : CC := (CC.seq s55_13 s55_18)
noncomputable abbrev s55_20 : CC := (CC.seq CC.skip s55_19)
noncomputable abbrev s55_21 : CC := (CC.seq (CC.region [(wB 4 (doMove (oN 0))), (wB 5 (doMove (oN 0)))]) s55_20)
noncomputable abbrev b55 : CC := (CC.seq (CC.region [(wB 2 (doMove (oN 0))), (wB 3 (doMove (O.c (V.b Bool.false))))]) s55_21)
theorem c55 : compFn Try.prog 55 = ⟨36, b55, [(Rs.tmp (slOf 2)), (Rs.tmp (slOf 3))]⟩ := by kernel_rfl
noncomputable abbrev s43_0 : CC := (CC.seq (CC.region [(wB 3 (doMove (tm 0))), (wB 4 (doLenS (tm 3))), (wB 5 (doCall 24 [(tm 4)])), (wB 6 (doMove (tm 0))), (wB 7 (doConcat (tm 5) (tm 6))), (wB 2 (doMove (tm 7)))]) CC.ret)
noncomputable abbrev b43 : CC := (CC.seq (CC.region [(wB 2 (doMove (O.c (V.s 0 0))))]) s43_0)
theorem c43 : compFn Try.prog 43 = ⟨8, b43, [(Rs.tmp (slOf 2))]⟩ := by kernel_rfl
end Go.Proofs.Ythncpgkpkdolfaa

namespace Go.Proofs.Ythncpgkpkdolfaa
open Go Go.Ev
theorem hmix : Try.prog.follows .mixedOrders = true := by kernel_rfl
open Go.Ev in
instance {nt : Nat} {t : F} {h : H} {K : X → F → H → Prop} {l : List CO} : St (Ok Try.prog nt (.draws l) t h K) (DO Try.prog l t h (K .normal)) := ⟨Ok.dw hmix⟩
end Go.Proofs.Ythncpgkpkdolfaa

set_option maxRecDepth 100000
set_option maxHeartbeats 8000000
set_option linter.all false
namespace Go.Proofs.Ythncpgkpkdolfaa
open Go Go.Ev
theorem or_add {n d : Nat} (h : d < 256) : n * 2 ^ 8 ||| d = n * 256 + d := by
  have := Nat.two_pow_add_eq_or_of_lt (i := 8) (b := d) (by omega) n
  rw [Nat.mul_comm n, ← this]
theorem pk_ge (l : List UInt8) (i : Nat) (h : i ≤ l.length) : pk (l.take i) * 256 ^ (l.length - i) ≤ pk l := by
  have e := pk_append (l.take i) (l.drop i)
  rw [List.take_append_drop, List.length_drop] at e
  omega
theorem pk_bad {l : List UInt8} {i : Nat} (h8 : l.length ≤ 8) (hi : i < l.length) (h : 36028797018963967 < pk (l.take i)) : 9223372036854775808 ≤ pk l := by
  have h1 := pk_ge l i (by omega)
  have h2 : 256 ≤ 256 ^ (l.length - i) := by
    have := Nat.pow_le_pow_right (n := 256) (by omega) (show 1 ≤ l.length - i by omega)
    simpa using this
  have h3 := Nat.mul_le_mul (show 36028797018963968 ≤ pk (l.take i) by omega) h2
  omega
theorem head_zero {l : List UInt8} (h : (l.getD 0 0).toNat = 0) (h0 : 0 < l.length) : l.head? = some 0 := by
  cases l with
  | nil => simp at h0
  | cons c r => have : c = 0 := UInt8.toNat_inj.1 h
                rw [this]; rfl
theorem head_pos {l : List UInt8} (h : ¬ (l.getD 0 0).toNat = 0) : l.head? ≠ some 0 := by
  cases l with
  | nil => simp
  | cons c r => intro h0; have : c = 0 := by simpa using h0
                subst this; exact h rfl
theorem number_ok {h : H} {l : List UInt8} (h8 : l.length ≤ 8) : FnOk Try.prog 55 [sv l] h fun y h' => y = numR l ∧ h' = h := by
  refine fn_go c55 (by intro hb; cases hb) (by simp) (by simp) fun Q hQ => ?_
  simp only [slotsF, Nat.reduceAdd]
  repeat' (first
    | refine St.h ?_
    | simp (disch := first | omega | (simp only [lnv]; omega)) only [wlk, ↓get_put', ↓reduceIte, seval]
    | (with_reducible (first | apply cd_split | apply gd_split)) <;> (intro hc; (try simp only [hcn] at hc); (try simp only [hc]); (try simp only [hcl] at hc); try omega))
  refine Ok.lp (fun m t g => ∃ i : Nat, i ≤ l.length ∧ m = l.length - i ∧ g = h ∧ get 0 t = sv l ∧ get 4 t = .i .i64 ((pk (l.take i) : Nat) : Int) ∧ get 5 t = .i .i64 (i : Int) ∧ (0 < i → l.head? ≠ some 0) ∧ pk (l.take i) ≤ 9223372036854775807) l.length ?_ ?_
  · simp (disch := first | omega | (simp only [lnv]; omega)) only [wlk, ↓get_put', ↓reduceIte, seval]
    exact ⟨0, by omega, rfl, trivial, trivial, rfl, rfl, fun h => absurd h (by omega), by simp [pk]⟩
  · rintro I hI m t g ⟨i, hi', rfl, rfl, f0, f4, f5, hF, hV⟩
    have hgd := (l.getD i 0).toNat_lt
    repeat' (first
      | refine St.h ?_
      | simp (disch := first | omega | (simp only [lnv]; omega)) only [wlk, ↓get_put', ↓reduceIte, seval, *]
      | (with_reducible (first | apply cd_split | apply gd_split)) <;> (intro hc; (try simp only [hcn] at hc); (try simp only [hc]); (try simp only [hcl] at hc); try omega))
    · obtain rfl : i = 0 := by omega
      exact ⟨(numR_bad (.inl (head_zero (by omega) (by omega)))).symm, trivial⟩
    · exact ⟨(numR_bad (.inr (pk_bad h8 (by omega) (by omega : 36028797018963967 < pk (l.take i))))).symm, trivial⟩
    · obtain rfl : i = 0 := by omega
      have n1 : ((pk (l.take 0) : Int) * 256).toNat ||| (l.getD 0 0).toNat = pk (l.take 1) := by
        rw [show ((pk (l.take 0) : Int) * 256).toNat = pk (l.take 0) * 2 ^ 8 by omega, or_add (by omega), pk_take (by omega)]
      have n2 : pk (l.take 1) ≤ 9223372036854775807 := by rw [pk_take (by omega)]; omega
      refine lp_next hI (l.length - (0 + 1)) (by omega) ⟨0 + 1, by omega, rfl, rfl, ?_, ?_, ?_, fun _ => head_pos (by omega), n2⟩
      · simp (disch := first | omega | (simp only [lnv]; omega)) only [wlk, ↓get_put', ↓reduceIte, seval, *]
      · simp (disch := first | omega | (simp only [lnv]; omega)) only [wlk, ↓get_put', ↓reduceIte, seval, *]
      · simp (disch := first | omega | (simp only [lnv]; omega)) only [wlk, ↓get_put', ↓reduceIte, seval, *]
    · exact ⟨(numR_bad (.inr (pk_bad h8 (by omega) (by omega : 36028797018963967 < pk (l.take i))))).symm, trivial⟩
    · have n1 : ((pk (l.take i) : Int) * 256).toNat ||| (l.getD i 0).toNat = pk (l.take (i + 1)) := by
        rw [show ((pk (l.take i) : Int) * 256).toNat = pk (l.take i) * 2 ^ 8 by omega, or_add (by omega), pk_take (by omega)]
      have n2 : pk (l.take (i + 1)) ≤ 9223372036854775807 := by rw [pk_take (by omega)]; omega
      refine lp_next hI (l.length - (i + 1)) (by omega) ⟨i + 1, by omega, rfl, rfl, ?_, ?_, ?_, fun _ => hF (by omega), n2⟩
      · simp (disch := first | omega | (simp only [lnv]; omega)) only [wlk, ↓get_put', ↓reduceIte, seval, *]
      · simp (disch := first | omega | (simp only [lnv]; omega)) only [wlk, ↓get_put', ↓reduceIte, seval, *]
      · simp (disch := first | omega | (simp only [lnv]; omega)) only [wlk, ↓get_put', ↓reduceIte, seval, *]; rfl
    · have : i = l.length := by omega
      subst this
      rw [List.take_length] at *
      refine ⟨(numR_ok ?_).symm, trivial⟩
      rintro (h1 | h1)
      · cases l with
        | nil => cases h1
        | cons c r => exact hF (by simp) h1
      · omega
theorem num_ok {h : H} {n : Int} (hn : n ≤ 9223372036854775807) (hf : B.val h.floor ≤ B.val h.next) : FnOk Try.prog 24 [.i .i64 n] h fun y h' => y = sv (numB n.toNat) ∧ Stay nowhere h h' := by
  refine fn_go c24 (by intro hb; cases hb) (by simp) (by simp) fun Q hQ => ?_
  simp only [slotsF, Nat.reduceAdd]
  have hN : n.toNat ≤ 9223372036854775807 := by omega
  have h8 := digs_len8 hN
  repeat' (first
    | refine St.h ?_
    | simp (disch := first | omega | (simp only [lnv]; omega)) only [wlk, ↓get_put', ↓reduceIte, seval]
    | (with_reducible (first | apply cd_split | apply gd_split)) <;> (intro hc; (try simp only [hcn] at hc); (try simp only [hc]); (try simp only [hcl] at hc); try omega))
  refine AL.own (by simp) hf fun h1 s1 n1 o1 => ?_
  repeat' (first
    | refine St.h ?_
    | simp (disch := first | omega | (simp only [lnv]; omega)) only [wlk, ↓get_put', ↓reduceIte, seval, List.length_cons, List.length_nil]
    | (with_reducible (first | apply cd_split | apply gd_split)) <;> (intro hc; (try simp only [hcn] at hc); (try simp only [hc]); (try simp only [hcl] at hc); try omega))
  refine Ok.lp (fun m t g => ∃ (z : Int) (d : List UInt8) (xs : List V), m = z.toNat ∧ z.toNat ≤ 9223372036854775807 ∧ digs z.toNat ++ d = digs n.toNat ∧ get 0 t = .i .i64 z ∧ get 3 t = .p h.next 0 0 9 ∧ get 4 t = .i .i64 ((9 - d.length : Nat) : Int) ∧ Ev.Own g h.next xs ∧ xs.length = 9 ∧ xs.drop (9 - d.length) = d.map bv ∧ Stay nowhere h g) n.toNat ?_ ?_
  · simp (disch := first | omega | (simp only [lnv]; omega)) only [wlk, ↓get_put', ↓reduceIte, seval]
    refine ⟨n, [], _, rfl, hN, by simp, rfl, trivial, rfl, o1, rfl, rfl, s1⟩
  rintro I hI m t g ⟨z, d, xs, rfl, hz, hD, f0, f3, f4, o, hx, hxd, st⟩
  have hdl : (digs z.toNat).length + d.length ≤ 8 := by rw [← List.length_append, hD]; exact h8
  have ea2 : (((9 - d.length : Nat) : Int) - 1) = ((8 - d.length : Nat) : Int) := by omega
  have ew : (9 : Int) - ((9 - d.length : Nat) : Int) = (d.length : Int) := by omega
  repeat' (first
    | refine St.h ?_
    | simp (disch := first | omega | (simp only [lnv]; omega)) only [wlk, ↓get_put', ↓reduceIte, seval, f0, f3, f4, hQ, ea2, ew, wrap_u8m]
    | (with_reducible (first | apply cd_split | apply gd_split)) <;> (intro hc; (try simp only [hcn] at hc); (try simp only [hc]); (try simp only [hcl] at hc); try omega))
  · obtain ⟨c, rfl⟩ := Int.eq_ofNat_of_zero_le (by omega : 0 ≤ z)
    rw [Int.toNat_natCast] at hD hdl hz
    have hc0 : c ≠ 0 := by omega
    have hdp := digs_pos hc0
    have hd1 : (digs c).length = (digs (c / 256)).length + 1 := by rw [hdp]; simp
    refine ST.own (y := bv (UInt8.ofNat (c % 256))) o (by rw [← bv_ofNat]; simp; rfl) rfl (by omega) (by omega) fun g' o' s' => ?_
    repeat' (first
      | refine St.h ?_
      | simp (disch := first | omega | (simp only [lnv]; omega)) only [wlk, ↓get_put', ↓reduceIte, seval, f0, f3, f4, ea2]
      | (with_reducible (first | apply cd_split | apply gd_split)) <;> (intro hc; (try simp only [hcn] at hc); (try simp only [hc]); (try simp only [hcl] at hc); try omega))
    have hdrop : (xs.set (8 - d.length) (bv (UInt8.ofNat (c % 256)))).drop (9 - (UInt8.ofNat (c % 256) :: d).length) = (UInt8.ofNat (c % 256) :: d).map bv := by
      rw [show 9 - (UInt8.ofNat (c % 256) :: d).length = 8 - d.length by simp only [List.length_cons]; omega, drop_set1 _ _ _ (by omega), show 8 - d.length + 1 = 9 - d.length by omega, hxd]; rfl
    refine lp_next hI (c / 256) (by omega) ⟨((c / 256 : Nat) : Int), UInt8.ofNat (c % 256) :: d, _, by rw [Int.toNat_natCast], by rw [Int.toNat_natCast]; omega, ?_, ?_, ?_, ?_, o', by rw [List.length_set]; exact hx, hdrop, st.past' s' fun i hi => by rw [hi]; exact Nat.le_refl _⟩
    · rw [Int.toNat_natCast, ← hD, hdp]; simp
    · simp (disch := first | omega | (simp only [lnv]; omega)) only [wlk, ↓get_put', ↓reduceIte, seval]; rfl
    · simp (disch := first | omega | (simp only [lnv]; omega)) only [wlk, ↓get_put', ↓reduceIte, seval, f3]
    · simp (disch := first | omega | (simp only [lnv]; omega)) only [wlk, ↓get_put', ↓reduceIte, seval]
      congr 1; simp only [List.length_cons]; omega
  · have hz0 : z.toNat = 0 := by omega
    rw [hz0, digs_zero, List.nil_append] at hD
    refine ST.own (y := bv (UInt8.ofNat d.length)) o (by rw [← bv_ofNat, Nat.mod_eq_of_lt (by omega)]; rfl) rfl (by omega) (by omega) fun g' o' s' => ?_
    have hlen : (xs.set (8 - d.length) (bv (UInt8.ofNat d.length))).length = 9 := by rw [List.length_set]; exact hx
    have hdrop : (xs.set (8 - d.length) (bv (UInt8.ofNat d.length))).drop (8 - d.length) = (UInt8.ofNat d.length :: d).map bv := by
      rw [drop_set1 _ _ _ (by omega), show 8 - d.length + 1 = 9 - d.length by omega, hxd]; rfl
    have hL := o'.back (a := 8 - d.length) (fin := 9) (by omega) (by omega) (some (9 - (8 - d.length)))
    rw [hdrop, hlen] at hL
    repeat' (first
      | refine St.h ?_
      | simp (disch := first | omega | (simp only [lnv]; omega)) only [wlk, ↓get_put', ↓reduceIte, seval, f0, f3, f4, hL.bs (by simp)]
      | (with_reducible (first | apply cd_split | apply gd_split)) <;> (intro hc; (try simp only [hcn] at hc); (try simp only [hc]); (try simp only [hcl] at hc); try omega))
    subst hQ
    exact ⟨by unfold numB; rw [← hD], st.past' s' fun i hi => by rw [hi]; exact Nat.le_refl _⟩
end Go.Proofs.Ythncpgkpkdolfaa

set_option maxRecDepth 100000
set_option maxHeartbeats 8000000
set_option linter.all false
namespace Go.Proofs.Ythncpgkpkdolfaa
open Go Go.Ev
theorem text_ok {h : H} {l : List UInt8} (hl : l.length ≤ 1000000) (hf : B.val h.floor ≤ B.val h.next) : FnOk Try.prog 43 [sv l] h fun y h' => y = sv (textB l) ∧ Stay nowhere h h' := by
  refine fn_go c43 (by intro hb; cases hb) (by simp) (by simp) fun Q hQ => ?_
  simp only [slotsF, Nat.reduceAdd]
  have h9 := numB_len (n := l.length) (by omega)
  repeat' (first
    | refine St.h ?_
    | simp (disch := first | omega | (simp only [lnv]; omega)) only [wlk, ↓get_put', ↓reduceIte, seval]
    | (with_reducible (first | apply cd_split | apply gd_split)) <;> (intro hc; (try simp only [hcn] at hc); (try simp only [hc]); (try simp only [hcl] at hc); try omega))
  refine CL.stay (num_ok (by omega) hf) fun h1 s1 => ?_
  repeat' (first
    | refine St.h ?_
    | simp (disch := first | omega | (simp only [lnv]; omega)) only [wlk, ↓get_put', ↓reduceIte, seval]
    | (with_reducible (first | apply cd_split | apply gd_split)) <;> (intro hc; (try simp only [hcn] at hc); (try simp only [hc]); (try simp only [hcl] at hc); try omega))
  subst hQ
  exact ⟨rfl, s1⟩
end Go.Proofs.Ythncpgkpkdolfaa

set_option maxRecDepth 100000
set_option maxHeartbeats 8000000
set_option linter.all false
namespace Go.Proofs.Ythncpgkpkdolfaa
open Go Go.Ev
theorem isWrite_ok {h : H} {k v : List UInt8} {d : Bool} (hf : B.val h.floor ≤ B.val h.next) : FnOk Try.prog 36 [.a [sv k, .b d, sv v]] h fun y h' => y = .b (isW k d v) ∧ Stay nowhere h h' := by
  refine fn_go c36 (by intro hb; cases hb) (by simp) (by simp) fun Q hQ => ?_
  simp only [slotsF, Nat.reduceAdd]
  repeat' (first
    | refine St.h ?_
    | simp (disch := first | omega | (simp only [lnv]; omega)) only [wlk, ↓get_put', ↓reduceIte, seval]
    | (with_reducible (first | apply cd_split | apply gd_split)) <;> (intro hc; (try simp only [hcn] at hc); (try simp only [hc]); (try simp only [hcl] at hc); try omega))
  refine AL.own (by simp) hf fun h1 s1 n1 o1 => ?_
  repeat' (first
    | refine St.h ?_
    | simp (disch := first | omega | (simp only [lnv]; omega)) only [wlk, ↓get_put', ↓reduceIte, seval, o1.row.l1]
    | (with_reducible (first | apply cd_split | apply gd_split)) <;> (intro hc; (try simp only [hcn] at hc); (try simp only [hc]); (try simp only [hcl] at hc); try omega))
  all_goals (subst hQ; refine ⟨?_, s1⟩; congr 1; symm; first | exact isW_lo (by assumption) | exact isW_hi (by assumption) | exact isW_t (by assumption) (by assumption) (by assumption) | exact isW_f (by assumption) (by assumption) (by assumption))
end Go.Proofs.Ythncpgkpkdolfaa

set_option maxRecDepth 100000
set_option maxHeartbeats 8000000
set_option linter.all false
namespace Go.Proofs.Ythncpgkpkdolfaa
open Go Go.Ev
/-- a block, as it lies -/
structure Bk where
  v : V
  l : List Ent
instance : Inhabited Bk := ⟨⟨.l0, []⟩⟩
def bkC (b : Bk) : List V := [b.v]
theorem bkC_len (b : Bk) : (bkC b).length = 1 := rfl
/-- blocks, as they lie -/
structure Bls (h : H) (v : V) (bs : List (List Ent)) (ks : List Bk) : Prop where
  ss : Ss 1 bkC h v ks
  eq : ks.map (·.l) = bs
  es : ∀ k ∈ ks, Es h k.v k.l
section
variable {P : Program} {h h' g' : H} {N : Nx} {v : V} {bs : List (List Ent)} {ks : List Bk} {i : Nat}
theorem Bls.len (a : Bls h v bs ks) : ks.length = bs.length := by rw [← a.eq, List.length_map]
theorem Bls.ld (a : Bls h v bs ks) (hi : i < bs.length) : L1 P (lid v) (lg v) (loff v + i) (lfin v) h N = N.go P (ks.getD i default).v h := by
  have := a.ss.ld (P := P) (N := N) (i := i) (d := 0) bkC_len (by rw [a.len]; exact hi) (by omega)
  rwa [Nat.mul_one] at this
theorem Bls.grow (a : Bls h v bs ks) (s : Stay nowhere h h') : Bls h' v bs ks := ⟨a.ss.grow s, a.eq, fun k hk => (a.es k hk).grow s⟩
theorem Bls.at (a : Bls h v bs ks) (hi : i < bs.length) : Es h (ks.getD i default).v (bs.getD i []) := by
  have hk : i < ks.length := by rw [a.len]; exact hi
  have h1 := a.es (ks.getD i default) (by rw [List.getD_eq_getElem?_getD, List.getElem?_eq_getElem hk]; simp)
  have h2 : bs.getD i [] = (ks.getD i default).l := by rw [← a.eq]; simp [List.getD, List.getElem?_eq_getElem hk]
  rw [h2]; exact h1
end
end Go.Proofs.Ythncpgkpkdolfaa

set_option maxRecDepth 1000000
set_option linter.all false
namespace Go.Proofs.Ythncpgkpkdolfaa
open Go Go.Ev
noncomputable abbrev s54_0 : CC := (CC.cond (tm 9) CC.skip (CC.exit 0))
noncomputable abbrev s54_1 : CC := (CC.region [(wB 18 (doMove (tm 4))), (wB 19 (doMove (tm 3))), (wB 20 (bin2 fAdd (tm 18) (tm 19))), (wB 21 (doRem (tm 20) (O.c (V.i IntKind.u32 (Int.ofNat 65521))))), (wB 4 (doMove (tm 21)))])
noncomputable abbrev s54_2 : CC := (CC.seq (CC.region [(wB 11 (doMove (tm 3))), (wB 12 (doMove (tm 0))), (wB 13 (doMove (tm 5))), (wB 14 (doSIndex (tm 12) (tm 13))), (wB 15 (doConv IntKind.u32 (tm 14))), (wB 16 (bin2 fAdd (tm 11) (tm 15))), (wB 17 (doRem (tm 16) (O.c (V.i IntKind.u32 (Int.ofNat 65521))))), (wB 3 (doMove (tm 17)))]) s54_1)
noncomputable abbrev s54_3 : CC := (CC.seq (CC.region [(wB 10 (doMove (tm 8))), (wB 5 (doMove (tm 10)))]) s54_2)
noncomputable abbrev s54_4 : CC := (CC.block 1 s54_3)
noncomputable abbrev s54_5 : CC := (CC.region [(wB 22 (bin2 fAdd (tm 8) (oN 1))), (wB 8 (doMove (tm 22)))])
noncomputable abbrev s54_6 : CC := (CC.seq s54_4 s54_5)
noncomputable abbrev s54_7 : CC := (CC.seq s54_0 s54_6)
noncomputable abbrev l54_0 : CC := (CC.seq (CC.region [(wB 9 (bin2 fLss (tm 8) (tm 7)))]) s54_7)
noncomputable abbrev s54_8 : CC := (CC.loop l54_0)
noncomputable abbrev s54_9 : CC := (CC.block 0 s54_8)
noncomputable abbrev s54_10 : CC := (CC.seq (CC.region [(wB 6 (doMove (tm 0))), (wB 7 (doLenS (tm 6))), (wB 8 (doMove (oN 0)))]) s54_9)
noncomputable abbrev s54_11 : CC := (CC.seq (CC.region [(wB 23 (doMove (tm 4))), (wB 24 (doShift shlF (tm 23) (O.c (V.i IntKind.u64 (Int.ofNat 16))))), (wB 25 (doMove (tm 3))), (wB 26 (bin2 fOr (tm 24) (tm 25))), (wB 2 (doMove (tm 26)))]) CC.ret)
noncomputable abbrev s54_12 : CC := (CC.seq s54_10 s54_11)
noncomputable abbrev s54_13 : CC := (CC.seq (CC.region [(wB 3 (doMove (O.c (V.i IntKind.u32 (Int.ofNat 1))))), (wB 4 (doMove (O.c (V.i IntKind.u32 (Int.ofNat 0)))))]) s54_12)
noncomputable abbrev b54 : CC := (CC.seq (CC.region [(wB 2 (doMove (O.c (V.i IntKind.u32 (Int.ofNat 0)))))]) s54_13)
theorem c54 : compFn Try.prog 54 = ⟨27, b54, [(Rs.tmp (slOf 2))]⟩ := by kernel_rfl
noncomputable abbrev s44_0 : CC := (CC.seq (CC.region [(wB 6 (doMove (tm 3))), (wB 7 (doShift shrF (tm 6) (O.c (V.i IntKind.u64 (Int.ofNat 24))))), (wB 8 (doConv IntKind.u8 (tm 7))), (wB 9 (doMove (tm 3))), (wB 10 (doShift shrF (tm 9) (O.c (V.i IntKind.u64 (Int.ofNat 16))))), (wB 11 (doConv IntKind.u8 (tm 10))), (wB 12 (doMove (tm 3))), (wB 13 (doShift shrF (tm 12) (O.c (V.i IntKind.u64 (Int.ofNat 8))))), (wB 14 (doConv IntKind.u8 (tm 13))), (wB 15 (doMove (tm 3))), (wB 16 (doConv IntKind.u8 (tm 15))), (wB 17 (doBuildSlice 5 4 [(V.i IntKind.u8 (Int.ofNat 0)), (V.i IntKind.u8 (Int.ofNat 0)), (V.i IntKind.u8 (Int.ofNat 0)), (V.i IntKind.u8 (Int.ofNat 0))] [(Pt.mk 0 1 (tm 8)), (Pt.mk 1 1 (tm 11)), (Pt.mk 2 1 (tm 14)), (Pt.mk 3 1 (tm 16))])), (wB 18 (doB2S (tm 17))), (wB 2 (doMove (tm 18)))]) CC.ret)
noncomputable abbrev s44_1 : CC := (CC.seq (CC.region [(wB 4 (doMove (tm 0))), (wB 5 (doCall 54 [(tm 4)])), (wB 3 (doMove (tm 5)))]) s44_0)
noncomputable abbrev b44 : CC := (CC.seq (CC.region [(wB 2 (doMove (O.c (V.s 0 0))))]) s44_1)
theorem c44 : compFn Try.prog 44 = ⟨19, b44, [(Rs.tmp (slOf 2))]⟩ := by kernel_rfl
noncomputable abbrev s26_0 : CC := (CC.seq (CC.region [(wB 3 (doMove (tm 0))), (wB 4 (doLenS (tm 3))), (wB 5 (doCall 24 [(tm 4)])), (wB 6 (doMove (tm 0))), (wB 7 (doCall 44 [(tm 6)])), (wB 8 (doConcat (tm 5) (tm 7))), (wB 9 (doMove (tm 0))), (wB 10 (doConcat (tm 8) (tm 9))), (wB 2 (doMove (tm 10)))]) CC.ret)
noncomputable abbrev b26 : CC := (CC.seq (CC.region [(wB 2 (doMove (O.c (V.s 0 0))))]) s26_0)
theorem c26 : compFn Try.prog 26 = ⟨11, b26, [(Rs.tmp (slOf 2))]⟩ := by kernel_rfl
noncomputable abbrev s45_0 : CC := (CC.seq (CC.region [(wB 3 (doMove (tm 0))), (wB 4 (doShift shrF (tm 3) (O.c (V.i IntKind.u64 (Int.ofNat 24))))), (wB 5 (doConv IntKind.u8 (tm 4))), (wB 6 (doMove (tm 0))), (wB 7 (doShift shrF (tm 6) (O.c (V.i IntKind.u64 (Int.ofNat 16))))), (wB 8 (doConv IntKind.u8 (tm 7))), (wB 9 (doMove (tm 0))), (wB 10 (doShift shrF (tm 9) (O.c (V.i IntKind.u64 (Int.ofNat 8))))), (wB 11 (doConv IntKind.u8 (tm 10))), (wB 12 (doMove (tm 0))), (wB 13 (doConv IntKind.u8 (tm 12))), (wB 14 (doBuildSlice 5 4 [(V.i IntKind.u8 (Int.ofNat 0)), (V.i IntKind.u8 (Int.ofNat 0)), (V.i IntKind.u8 (Int.ofNat 0)), (V.i IntKind.u8 (Int.ofNat 0))] [(Pt.mk 0 1 (tm 5)), (Pt.mk 1 1 (tm 8)), (Pt.mk 2 1 (tm 11)), (Pt.mk 3 1 (tm 13))])), (wB 15 (doB2S (tm 14))), (wB 2 (doMove (tm 15)))]) CC.ret)
noncomputable abbrev b45 : CC := (CC.seq (CC.region [(wB 2 (doMove (O.c (V.s 0 0))))]) s45_0)
theorem c45 : compFn Try.prog 45 = ⟨16, b45, [(Rs.tmp (slOf 2))]⟩ := by kernel_rfl
end Go.Proofs.Ythncpgkpkdolfaa

set_option maxRecDepth 100000
set_option maxHeartbeats 8000000
set_option linter.all false
namespace Go.Proofs.Ythncpgkpkdolfaa
open Go Go.Ev
theorem sum_ok {h : H} {l : List UInt8} (hl : l.length ≤ 1000000) : FnOk Try.prog 54 [sv l] h fun y h' => y = .i .u32 (sumB l : Int) ∧ h' = h := by
  refine fn_go c54 (by intro hb; cases hb) (by simp) (by simp) fun Q hQ => ?_
  simp only [slotsF, Nat.reduceAdd]
  repeat' (first
    | refine St.h ?_
    | simp (disch := first | omega | (simp only [lnv]; omega)) only [wlk, ↓get_put', ↓reduceIte, seval]
    | (with_reducible (first | apply cd_split | apply gd_split)) <;> (intro hc; (try simp only [hcn] at hc); (try simp only [hc]); (try simp only [hcl] at hc); try omega))
  refine Ok.lp (fun m t g => ∃ i : Nat, i ≤ l.length ∧ m = l.length - i ∧ g = h ∧ get 0 t = sv l ∧ get 3 t = .i .u32 ((adl (l.take i)).1 : Int) ∧ get 4 t = .i .u32 ((adl (l.take i)).2 : Int) ∧ get 7 t = .i .i64 (l.length : Int) ∧ get 8 t = .i .i64 (i : Int)) l.length ?_ ?_
  · simp (disch := first | omega | (simp only [lnv]; omega)) only [wlk, ↓get_put', ↓reduceIte, seval]
    exact ⟨0, by omega, rfl, trivial, trivial, rfl, rfl, trivial, rfl⟩
  rintro I hI m t g ⟨i, hi, rfl, rfl, f0, f3, f4, f7, f8⟩
  have hci := (l.getD i 0).toNat_lt
  have ⟨b1, b2⟩ := adl_lt (l.take i)
  repeat' (first
    | refine St.h ?_
    | simp (disch := first | omega | (simp only [lnv]; omega)) only [wlk, ↓get_put', ↓reduceIte, seval, f0, f3, f4, f7, f8]
    | (with_reducible (first | apply cd_split | apply gd_split)) <;> (intro hc; (try simp only [hcn] at hc); (try simp only [hc]); (try simp only [hcl] at hc); try omega))
  · have e := adl_take (l := l) (i := i) (by omega)
    refine lp_next hI (l.length - (i + 1)) (by omega) ⟨i + 1, by omega, rfl, rfl, ?_, ?_, ?_, ?_, ?_⟩
    · simp (disch := first | omega | (simp only [lnv]; omega)) only [wlk, ↓get_put', ↓reduceIte, seval, f0]
    · simp (disch := first | omega | (simp only [lnv]; omega)) only [wlk, ↓get_put', ↓reduceIte, seval, e, adlStep]; rfl
    · simp (disch := first | omega | (simp only [lnv]; omega)) only [wlk, ↓get_put', ↓reduceIte, seval, e, adlStep]; rfl
    · simp (disch := first | omega | (simp only [lnv]; omega)) only [wlk, ↓get_put', ↓reduceIte, seval, f7]
    · simp (disch := first | omega | (simp only [lnv]; omega)) only [wlk, ↓get_put', ↓reduceIte, seval]; rfl
  · obtain rfl : i = l.length := by omega
    rw [List.take_length] at *
    have e : (((adl l).2 : Int) * 65536).toNat ||| (adl l).1 = sumB l := by
      rw [show (((adl l).2 : Int) * 65536).toNat = 2 ^ 16 * (adl l).2 by omega, ← Nat.two_pow_add_eq_or_of_lt (by omega)]
      unfold sumB; omega
    subst hQ
    simp (disch := first | omega | (simp only [lnv]; omega)) only [wlk, ↓get_put', ↓reduceIte, seval, e]
theorem fourB_cells {n : Nat} (h : n < 4294967296) : ([V.i .u8 ((n / 16777216 : Nat) : Int), V.i .u8 ((n / 65536 % 256 : Nat) : Int), V.i .u8 ((n / 256 % 256 : Nat) : Int), V.i .u8 ((n % 256 : Nat) : Int)] : List V) = (fourB n).map bv := by
  have e1 : n / 16777216 = n / 16777216 % 256 := by omega
  rw [e1]
  simp only [bv_ofNat]
  unfold fourB
  simp [u8_mod]
theorem four_ok {h : H} {n : Nat} (hn : n < 4294967296) (hf : B.val h.floor ≤ B.val h.next) : FnOk Try.prog 45 [.i .u32 (n : Int)] h fun y h' => y = sv (fourB n) ∧ Stay nowhere h h' := by
  refine fn_go c45 (by intro hb; cases hb) (by simp) (by simp) fun Q hQ => ?_
  simp only [slotsF, Nat.reduceAdd]
  repeat' (first
    | refine St.h ?_
    | simp (disch := first | omega | (simp only [lnv]; omega)) only [wlk, ↓get_put', ↓reduceIte, seval, wrap_u8m]
    | (with_reducible (first | apply cd_split | apply gd_split)) <;> (intro hc; (try simp only [hcn] at hc); (try simp only [hc]); (try simp only [hcl] at hc); try omega))
  refine AL.str (bs := fourB n) (fourB_cells hn) (by simp [fourB]) rfl rfl (by simp [fourB]) hf fun h' u s1 => ?_
  repeat' (first
    | refine St.h ?_
    | simp (disch := first | omega | (simp only [lnv]; omega)) only [wlk, ↓get_put', ↓reduceIte, seval]
    | (with_reducible (first | apply cd_split | apply gd_split)) <;> (intro hc; (try simp only [hcn] at hc); (try simp only [hc]); (try simp only [hcl] at hc); try omega))
  subst hQ
  exact ⟨rfl, s1⟩
theorem sumBytes_ok {h : H} {l : List UInt8} (hl : l.length ≤ 1000000) (hf : B.val h.floor ≤ B.val h.next) : FnOk Try.prog 44 [sv l] h fun y h' => y = sv (fourB (sumB l)) ∧ Stay nowhere h h' := by
  refine fn_go c44 (by intro hb; cases hb) (by simp) (by simp) fun Q hQ => ?_
  simp only [slotsF, Nat.reduceAdd]
  have hn := sumB_lt l
  repeat' (first
    | refine St.h ?_
    | simp (disch := first | omega | (simp only [lnv]; omega)) only [wlk, ↓get_put', ↓reduceIte, seval]
    | (with_reducible (first | apply cd_split | apply gd_split)) <;> (intro hc; (try simp only [hcn] at hc); (try simp only [hc]); (try simp only [hcl] at hc); try omega))
  refine CL.pure (sum_ok hl) ?_
  repeat' (first
    | refine St.h ?_
    | simp (disch := first | omega | (simp only [lnv]; omega)) only [wlk, ↓get_put', ↓reduceIte, seval, wrap_u8m]
    | (with_reducible (first | apply cd_split | apply gd_split)) <;> (intro hc; (try simp only [hcn] at hc); (try simp only [hc]); (try simp only [hcl] at hc); try omega))
  refine AL.str (bs := fourB (sumB l)) (fourB_cells hn) (by simp [fourB]) rfl rfl (by simp [fourB]) hf fun h' u s1 => ?_
  repeat' (first
    | refine St.h ?_
    | simp (disch := first | omega | (simp only [lnv]; omega)) only [wlk, ↓get_put', ↓reduceIte, seval]
    | (with_reducible (first | apply cd_split | apply gd_split)) <;> (intro hc; (try simp only [hcn] at hc); (try simp only [hc]); (try simp only [hcl] at hc); try omega))
  subst hQ
  exact ⟨rfl, s1⟩
theorem seal_ok {h : H} {l : List UInt8} (hl : l.length ≤ 1000000) (hf : B.val h.floor ≤ B.val h.next) : FnOk Try.prog 26 [sv l] h fun y h' => y = sv (sealB l) ∧ Stay nowhere h h' := by
  refine fn_go c26 (by intro hb; cases hb) (by simp) (by simp) fun Q hQ => ?_
  simp only [slotsF, Nat.reduceAdd]
  have h9 := numB_len (n := l.length) (by omega)
  have h4 := fourB_len (sumB l)
  repeat' (first
    | refine St.h ?_
    | simp (disch := first | omega | (simp only [lnv]; omega)) only [wlk, ↓get_put', ↓reduceIte, seval]
    | (with_reducible (first | apply cd_split | apply gd_split)) <;> (intro hc; (try simp only [hcn] at hc); (try simp only [hc]); (try simp only [hcl] at hc); try omega))
  refine CL.stay (num_ok (by omega) hf) fun h1 s1 => ?_
  repeat' (first
    | refine St.h ?_
    | simp (disch := first | omega | (simp only [lnv]; omega)) only [wlk, ↓get_put', ↓reduceIte, seval]
    | (with_reducible (first | apply cd_split | apply gd_split)) <;> (intro hc; (try simp only [hcn] at hc); (try simp only [hc]); (try simp only [hcl] at hc); try omega))
  refine CL.stay (sumBytes_ok hl (s1.fl hf)) fun h2 s2 => ?_
  repeat' (first
    | refine St.h ?_
    | simp (disch := first | omega | (simp only [lnv]; omega)) only [wlk, ↓get_put', ↓reduceIte, seval]
    | (with_reducible (first | apply cd_split | apply gd_split)) <;> (intro hc; (try simp only [hcn] at hc); (try simp only [hc]); (try simp only [hcl] at hc); try omega))
  subst hQ
  exact ⟨rfl, s1.trans s2⟩
end Go.Proofs.Ythncpgkpkdolfaa

set_option maxRecDepth 100000
set_option maxHeartbeats 8000000
set_option linter.all false
namespace Go.Proofs.Ythncpgkpkdolfaa
open Go Go.Ev
theorem fm_wri (L : List Wri) : (L.flatMap wriC).length = L.length * 3 := fm_len wriC_len L
/-- append(u, x) of a write -/
theorem push_w {h : H} {u : V} {M : List Wri} {x : Wri} {id : B} {N : Nx} (b : Buf h 49 3 u (M.flatMap wriC)) (o : Ev.Own h id (wriC x)) (hl : M.length ≤ 100000) (hf : B.val h.floor ≤ B.val h.next)
    (k : ∀ u' h', Buf h' 49 3 u' ((M ++ [x]).flatMap wriC) → Stay (isOf u) h h' → (∀ i, isOf u' i → isOf u i ∨ B.val h.next ≤ B.val i) → N.go Try.prog u' h') : AP Try.prog 49 3 u (.l id 0 0 1 3 (some 1)) h N := by
  refine AP.buf (vs := wriC x) (cnt := 1) b (new_row o.row rfl (Nat.le_refl _) (by omega) (by show 3 ≤ 3; omega)) hf (by omega) rfl rfl (by rw [fm_wri]; show M.length * 3 + 3 ≤ 1048576; omega) fun u' h' b' s' hu _ => ?_
  refine k u' h' ?_ s' hu
  rw [List.flatMap_append]; simpa using b'
end Go.Proofs.Ythncpgkpkdolfaa

set_option maxRecDepth 100000
set_option maxHeartbeats 8000000
set_option linter.all false
namespace Go.Proofs.Ythncpgkpkdolfaa
open Go Go.Ev
theorem textB_len (l : List UInt8) (h : l.length ≤ 9223372036854775807) : (textB l).length ≤ l.length + 9 := by
  unfold textB; rw [List.length_append]; have := numB_len h; omega
end Go.Proofs.Ythncpgkpkdolfaa

set_option maxRecDepth 100000
set_option maxHeartbeats 8000000
set_option linter.all false
namespace Go.Proofs.Ythncpgkpkdolfaa
open Go Go.Ev
theorem rowsB_take {L : List Wri} {j : Nat} (hj : j < L.length) : numB L.length ++ (L.take (j + 1)).flatMap oneB = numB L.length ++ (L.take j).flatMap oneB ++ oneB (L.getD j default) := by
  rw [take_wri hj, List.flatMap_append]; simp
theorem oneB_len {w : Wri} (h : isR w = true) : (oneB w).length ≤ 60 := by
  have hr := isR_len h
  have l1 := textB_len w.key (by omega)
  have l2 := textB_len w.val (by omega)
  unfold oneB
  rw [List.length_append]
  split
  · simp; omega
  · rw [List.length_cons]; omega
theorem rows_len {L : List Wri} (hB : isB L = true) : ∀ {j : Nat}, j ≤ L.length → ((L.take j).flatMap oneB).length ≤ 60 * j
  | 0, _ => by simp
  | j + 1, hj => by
    have h1 := rows_len hB (j := j) (by omega)
    have h2 := oneB_len (upA_is (isB_up hB (j := j) (by omega)))
    rw [take_wri (by omega), List.flatMap_append, List.length_append, List.flatMap_cons, List.flatMap_nil, List.append_nil]
    omega
theorem rowsB_len {L : List Wri} (hB : isB L = true) : (rowsB L).length ≤ 500 := by
  have hl := isB_len hB
  have h1 := rows_len hB (Nat.le_refl _)
  have ln := numB_len (n := L.length) (by omega)
  rw [List.take_length] at h1
  unfold rowsB; rw [List.length_append]; omega
end Go.Proofs.Ythncpgkpkdolfaa

set_option maxRecDepth 100000
set_option maxHeartbeats 8000000
set_option linter.all false
namespace Go.Proofs.Ythncpgkpkdolfaa
open Go Go.Ev
theorem swn_buf12 {h : H} {el n : Nat} {v : V} {xs : List V} (b : Buf h el n v xs) : SwN n v := by
  rcases b with ⟨rfl, _⟩ | ⟨id, g, m, blk, rfl, h1, h2, _⟩
  · exact .inl rfl
  · exact .inr ⟨_, _, _, _, _, _, rfl, by show xs.length = 0 + m * n; omega⟩
end Go.Proofs.Ythncpgkpkdolfaa

set_option linter.all false
namespace Go.Ev
open Go
def Up (L : List Wri) : Prop := L.Pairwise fun a b => Op.bytesLess a.key b.key = true
def insW (w : Wri) : List Wri → List Wri
  | [] => [w]
  | x :: L => if x.key = w.key then w :: L else if Op.bytesLess w.key x.key then w :: x :: L else x :: insW w L
theorem wi_true {w : Wri} : ∀ {L : List Wri} {out : List Wri}, (∀ x ∈ L, x.key ≠ w.key) → L.foldl (wiS w) (out, true) = (out ++ L, true)
  | [], out, _ => by simp
  | x :: L, out, h => by
    have h1 := h x (by simp)
    rw [List.foldl_cons, show wiS w (out, true) x = (out ++ [x], true) by unfold wiS; simp [h1], wi_true fun y hy => h y (List.mem_cons_of_mem _ hy)]
    simp
theorem bl_ne {a b : List UInt8} (h : Op.bytesLess a b = true) : a ≠ b := fun e => by rw [e, bl_irr] at h; cases h
theorem wi_false {w : Wri} : ∀ {L : List Wri} {out : List Wri}, Up L → (if (L.foldl (wiS w) (out, false)).2 then (L.foldl (wiS w) (out, false)).1 else (L.foldl (wiS w) (out, false)).1 ++ [w]) = out ++ insW w L
  | [], out, _ => by simp [insW]
  | x :: L, out, h => by
    obtain ⟨h1, h2⟩ := List.pairwise_cons.1 h
    rw [List.foldl_cons]
    by_cases he : x.key = w.key
    · have hl : leB w.key x.key = true := by unfold leB; rw [he]; simp
      rw [show wiS w (out, false) x = (out ++ [w], true) by unfold wiS; simp [he, show leB w.key w.key = true by unfold leB; simp], wi_true fun y hy e => by
        have := h1 y hy
        rw [he, e, bl_irr] at this; cases this]
      unfold insW; rw [if_pos he]; simp
    · cases hb : Op.bytesLess w.key x.key with
      | true =>
        have hl : leB w.key x.key = true := by unfold leB; rw [hb]; rfl
        rw [show wiS w (out, false) x = (out ++ [w] ++ [x], true) by unfold wiS; simp [he, hl], wi_true fun y hy e => by
          have := bl_trans hb (h1 y hy)
          rw [e, bl_irr] at this; cases this]
        unfold insW; rw [if_neg he, hb]; simp
      | false =>
        have hl : leB w.key x.key = false := by unfold leB; rw [hb, decide_eq_false fun e => he e.symm]; rfl
        have hi : insW w (x :: L) = x :: insW w L := by
          show (if x.key = w.key then _ else if _ then _ else _) = _
          rw [if_neg he, hb]; simp
        rw [show wiS w (out, false) x = (out ++ [x], false) by unfold wiS; simp [he, hl], wi_false h2, hi]
        simp
theorem withB_ins {w : Wri} {L : List Wri} (h : Up L) : withB L w = insW w L := by
  have := wi_false (w := w) (out := []) h
  rw [List.nil_append] at this
  exact this
theorem insW_mem {w m : Wri} : ∀ {L : List Wri}, Up L → (m ∈ insW w L ↔ m = w ∨ (m ∈ L ∧ m.key ≠ w.key))
  | [], _ => by simp [insW]
  | x :: L, h => by
    obtain ⟨h1, h2⟩ := List.pairwise_cons.1 h
    unfold insW
    by_cases he : x.key = w.key
    · rw [if_pos he, List.mem_cons, List.mem_cons]
      constructor
      · rintro (e | e)
        · exact .inl e
        · exact .inr ⟨.inr e, fun e2 => bl_ne (h1 m e) (he.trans e2.symm)⟩
      · rintro (e | ⟨e | e, e2⟩)
        · exact .inl e
        · rw [e] at e2; exact absurd he e2
        · exact .inr e
    · rw [if_neg he]
      cases hb : Op.bytesLess w.key x.key with
      | true =>
        rw [if_pos rfl, List.mem_cons, List.mem_cons]
        constructor
        · rintro (e | e | e)
          · exact .inl e
          · exact .inr ⟨.inl e, by rw [e]; exact he⟩
          · exact .inr ⟨.inr e, fun e2 => by
              have := bl_trans hb (h1 m e)
              exact bl_ne this e2.symm⟩
        · rintro (e | ⟨e | e, _⟩)
          · exact .inl e
          · exact .inr (.inl e)
          · exact .inr (.inr e)
      | false =>
        rw [if_neg (by simp), List.mem_cons, insW_mem h2, List.mem_cons]
        constructor
        · rintro (e | e | ⟨e, e2⟩)
          · exact .inr ⟨.inl e, by rw [e]; exact he⟩
          · exact .inl e
          · exact .inr ⟨.inr e, e2⟩
        · rintro (e | ⟨e | e, e2⟩)
          · exact .inr (.inl e)
          · exact .inl e
          · exact .inr (.inr ⟨e, e2⟩)
theorem insW_up {w : Wri} : ∀ {L : List Wri}, Up L → Up (insW w L)
  | [], _ => by simp [insW, Up]
  | x :: L, h => by
    obtain ⟨h1, h2⟩ := List.pairwise_cons.1 h
    unfold insW
    by_cases he : x.key = w.key
    · rw [if_pos he]
      exact List.pairwise_cons.2 ⟨fun y hy => by rw [← he]; exact h1 y hy, h2⟩
    · rw [if_neg he]
      cases hb : Op.bytesLess w.key x.key with
      | true =>
        rw [if_pos rfl]
        exact List.pairwise_cons.2 ⟨fun y hy => by
          rcases List.mem_cons.1 hy with e | e
          · rw [e]; exact hb
          · exact bl_trans hb (h1 y e), h⟩
      | false =>
        rw [if_neg (by simp)]
        refine List.pairwise_cons.2 ⟨fun y hy => ?_, insW_up h2⟩
        rcases (insW_mem h2).1 hy with e | ⟨e, _⟩
        · rw [e]
          rcases bl_total (fun e => he e : x.key ≠ w.key) with h3 | h3
          · exact h3
          · rw [hb] at h3; cases h3
        · exact h1 y e
theorem insW_len {w : Wri} : ∀ L : List Wri, (insW w L).length ≤ L.length + 1
  | [] => by simp [insW]
  | x :: L => by
    unfold insW
    have := insW_len (w := w) L
    split
    · simp
    · split
      · simp
      · simp; omega
theorem insW_new {w : Wri} : ∀ {L : List Wri}, (∀ x ∈ L, x.key ≠ w.key) → (insW w L).length = L.length + 1
  | [], _ => by simp [insW]
  | x :: L, h => by
    unfold insW
    rw [if_neg (h x (by simp))]
    split
    · simp
    · rw [List.length_cons, insW_new fun y hy => h y (List.mem_cons_of_mem _ hy), List.length_cons]
theorem neat_up : ∀ (L out : List Wri), Up out → Up (L.foldl withB out)
  | [], _, h => h
  | w :: L, out, h => by
    rw [List.foldl_cons]
    exact neat_up L _ (by rw [withB_ins h]; exact insW_up h)
theorem neatB_up (L : List Wri) : Up (neatB L) := neat_up L [] List.Pairwise.nil
theorem neatB_step {L : List Wri} {i : Nat} (hi : i < L.length) : neatB (L.take (i + 1)) = insW (L.getD i default) (neatB (L.take i)) := by rw [neatB_take hi, withB_ins (neatB_up _)]
theorem neatB_len {L : List Wri} : ∀ {j : Nat}, j ≤ L.length → (neatB (L.take j)).length ≤ j
  | 0, _ => by simp [neatB]
  | j + 1, hj => by
    have h1 := neatB_len (L := L) (j := j) (by omega)
    have h2 := insW_len (w := L.getD j default) (neatB (L.take j))
    rw [neatB_step (by omega)]; omega
theorem neatB_sub {L : List Wri} : ∀ {j : Nat}, j ≤ L.length → ∀ m ∈ neatB (L.take j), m ∈ L.take j
  | 0, _, m, h => by simp [neatB] at h
  | j + 1, hj, m, h => by
    rw [neatB_step (by omega)] at h
    rw [take_wri (by omega)]
    rcases (insW_mem (neatB_up _)).1 h with e | ⟨e, _⟩
    · rw [e]; simp
    · exact List.mem_append_left _ (neatB_sub (by omega) m e)
/-- of unlike keys all are kept -/
theorem neatB_all {L : List Wri} (hd : L.Pairwise fun a b => a.key ≠ b.key) : ∀ {j : Nat}, j ≤ L.length → (neatB (L.take j)).length = j
  | 0, _ => by simp [neatB]
  | j + 1, hj => by
    rw [neatB_step (by omega), insW_new fun x hx => ?_, neatB_all hd (by omega)]
    have := neatB_sub (by omega) x hx
    obtain ⟨i, hi, rfl⟩ := List.getElem_of_mem this
    rw [List.length_take] at hi
    have h3 := (List.pairwise_iff_getElem.1 hd) i j (by omega) (by omega) (by omega)
    rw [List.getElem_take]
    rwa [show L.getD j default = L[j] by simp [List.getD, show j < L.length by omega]]
theorem up_ext : ∀ {A C : List Wri}, Up A → Up C → (∀ a, a ∈ A ↔ a ∈ C) → A = C
  | [], [], _, _, _ => rfl
  | [], c :: C, _, _, h => absurd ((h c).2 (by simp)) (by simp)
  | a :: A, [], _, _, h => absurd ((h a).1 (by simp)) (by simp)
  | a :: A, c :: C, ha, hc, h => by
    obtain ⟨a1, a2⟩ := List.pairwise_cons.1 ha
    obtain ⟨c1, c2⟩ := List.pairwise_cons.1 hc
    have e : a = c := by
      rcases List.mem_cons.1 ((h a).1 (by simp)) with e | e
      · exact e
      · rcases List.mem_cons.1 ((h c).2 (by simp)) with e2 | e2
        · exact e2.symm
        · have := bl_trans (c1 a e) (a1 c e2)
          rw [bl_irr] at this; cases this
    subst e
    rw [up_ext a2 c2 fun x => ?_]
    constructor
    · intro hx
      rcases List.mem_cons.1 ((h x).1 (List.mem_cons_of_mem _ hx)) with e | e
      · have := a1 x hx; rw [e, bl_irr] at this; cases this
      · exact e
    · intro hx
      rcases List.mem_cons.1 ((h x).2 (List.mem_cons_of_mem _ hx)) with e | e
      · have := c1 x hx; rw [e, bl_irr] at this; cases this
      · exact e
theorem upU_up {L : List Wri} (h : Up L) (hr : ∀ w ∈ L, isR w = true) : upU L L.length = true := by
  unfold upU
  refine List.all_eq_true.2 fun j hj => ?_
  have hj := List.mem_range.1 hj
  unfold upA
  rw [hr _ (by rw [show L.getD j default = L[j] by simp [List.getD, hj]]; simp), Bool.true_and]
  by_cases h0 : j = 0
  · rw [decide_eq_true h0]; rfl
  · have := (List.pairwise_iff_getElem.1 h) (j - 1) j (by omega) hj (by omega)
    rw [show L.getD j default = L[j] by simp [List.getD, hj], show L.getD (j - 1) default = L[j - 1] by simp [List.getD, show j - 1 < L.length by omega], this, Bool.or_true]
end Go.Ev

set_option linter.all false
namespace Go.Ev
open Go
/-- of two of L, by their places: is the first one's key less -/
def klK (L : List Wri) (x y : Nat) : Bool := Op.bytesLess (L.getD x default).key (L.getD y default).key
def eqK (L : List Wri) (x y : Nat) : Prop := (L.getD x default).key = (L.getD y default).key
/-- by keys, those of one key as they came -/
def ltK (L : List Wri) (x y : Nat) : Prop := klK L x y = true ∨ (eqK L x y ∧ x < y)
section
variable {L : List Wri} {x y z : Nat} {p q : Nat → Nat} {a b c m s e n : Nat}
theorem ltK_kl (h : klK L x y = true) : ltK L x y := .inl h
theorem ltK_no (h : klK L x y = false) (hs : eqK L y x → y < x) : ltK L y x := by
  unfold klK at h
  by_cases e : (L.getD x default).key = (L.getD y default).key
  · exact .inr ⟨e.symm, hs e.symm⟩
  · rcases bl_total e with h2 | h2
    · rw [h] at h2; cases h2
    · exact .inl h2
theorem ltK_trans (h1 : ltK L x y) (h2 : ltK L y z) : ltK L x z := by
  unfold ltK klK eqK at *
  rcases h1 with h1 | ⟨h1, h3⟩ <;> rcases h2 with h2 | ⟨h2, h4⟩
  · exact .inl (bl_trans h1 h2)
  · rw [h2] at h1; exact .inl h1
  · rw [← h1] at h2; exact .inl h2
  · exact .inr ⟨h1.trans h2, by omega⟩
/-- the row in places a to b is in order -/
def Srt (L : List Wri) (p : Nat → Nat) (a b : Nat) : Prop := ∀ i j, a ≤ i → i < j → j < b → ltK L (p i) (p j)
/-- of one key those in the first part came first -/
def Stb (L : List Wri) (p : Nat → Nat) (a m b : Nat) : Prop := ∀ i j, a ≤ i → i < m → m ≤ j → j < b → eqK L (p i) (p j) → p i < p j
def Crs (L : List Wri) (p : Nat → Nat) (a m b : Nat) : Prop := ∀ i j, a ≤ i → i < m → m ≤ j → j < b → ltK L (p i) (p j)
/-- in places a to b the same ones, elsewhere nothing has changed -/
structure Per (p q : Nat → Nat) (a b : Nat) : Prop where
  out : ∀ k, k < a ∨ b ≤ k → q k = p k
  mem : ∀ x, (∃ k, a ≤ k ∧ k < b ∧ q k = x) ↔ ∃ k, a ≤ k ∧ k < b ∧ p k = x
theorem Per.refl : Per p p a b := ⟨fun _ _ => rfl, fun _ => Iff.rfl⟩
theorem Per.trans {r : Nat → Nat} (h1 : Per p q a b) (h2 : Per q r a b) : Per p r a b := ⟨fun k hk => (h2.out k hk).trans (h1.out k hk), fun x => (h2.mem x).trans (h1.mem x)⟩
theorem Per.wide {a' b' : Nat} (h : Per p q a b) (ha : a' ≤ a) (hb : b ≤ b') : Per p q a' b' := by
  refine ⟨fun k hk => h.out k (by omega), fun x => ⟨?_, ?_⟩⟩
  · rintro ⟨k, h1, h2, h3⟩
    by_cases hk : k < a ∨ b ≤ k
    · exact ⟨k, h1, h2, by rw [← h.out k hk]; exact h3⟩
    · obtain ⟨j, h4, h5, h6⟩ := (h.mem x).1 ⟨k, by omega, by omega, h3⟩
      exact ⟨j, by omega, by omega, h6⟩
  · rintro ⟨k, h1, h2, h3⟩
    by_cases hk : k < a ∨ b ≤ k
    · exact ⟨k, h1, h2, by rw [h.out k hk]; exact h3⟩
    · obtain ⟨j, h4, h5, h6⟩ := (h.mem x).2 ⟨k, by omega, by omega, h3⟩
      exact ⟨j, by omega, by omega, h6⟩
theorem srt_glue (h1 : Srt L p a m) (h2 : Srt L p m b) (h3 : Crs L p a m b) : Srt L p a b := fun i j hi hij hj => by
  by_cases h4 : j < m
  · exact h1 i j hi hij h4
  · by_cases h5 : m ≤ i
    · exact h2 i j h5 hij hj
    · exact h3 i j hi (by omega) (by omega) hj
theorem crs_per (h : Crs L p a m b) (h1 : Per p q a m) : Crs L q a m b := fun i j hi him hmj hj => by
  obtain ⟨k, k1, k2, k3⟩ := (h1.mem (q i)).1 ⟨i, hi, him, rfl⟩
  rw [← k3, h1.out j (.inr hmj)]
  exact h k j k1 k2 hmj hj
theorem crs_per2 (h : Crs L p a m b) (h1 : Per p q m b) : Crs L q a m b := fun i j hi him hmj hj => by
  obtain ⟨k, k1, k2, k3⟩ := (h1.mem (q j)).1 ⟨j, hmj, hj, rfl⟩
  rw [← k3, h1.out i (.inl him)]
  exact h i k hi him k1 k2
theorem srt_out (h : Srt L p a b) (h1 : ∀ k, a ≤ k → k < b → q k = p k) : Srt L q a b := fun i j hi hij hj => by
  rw [h1 i hi (by omega), h1 j (by omega) hj]; exact h i j hi hij hj
/-- s on: i there, then j; turned about -/
def rotK (p : Nat → Nat) (s i j : Nat) : Nat → Nat := fun k => if k < s then p k else if k < s + j then p (k + i) else if k < s + j + i then p (k - j) else p k
theorem rot_lo (h : x < s) : rotK p s a b x = p x := if_pos h
theorem rot_1 (h1 : s ≤ x) (h2 : x < s + b) : rotK p s a b x = p (x + a) := by unfold rotK; rw [if_neg (by omega), if_pos h2]
theorem rot_2 (h1 : s + b ≤ x) (h2 : x < s + b + a) : rotK p s a b x = p (x - b) := by unfold rotK; rw [if_neg (by omega), if_neg (by omega), if_pos h2]
theorem rot_hi (h : s + b + a ≤ x) : rotK p s a b x = p x := by unfold rotK; rw [if_neg (by omega), if_neg (by omega), if_neg (by omega)]
/-- n from a on and n from b on change places -/
def blcK (p : Nat → Nat) (a b n : Nat) : Nat → Nat := fun k => if a ≤ k ∧ k < a + n then p (k - a + b) else if b ≤ k ∧ k < b + n then p (k - b + a) else p k
def swpK (p : Nat → Nat) (a b : Nat) : Nat → Nat := fun k => if k = b then p a else if k = a then p b else p k
theorem blc_zero : blcK p a b 0 = p := by funext k; unfold blcK; rw [if_neg (by omega), if_neg (by omega)]
theorem blc_succ (h : a + n + 1 ≤ b) : swpK (blcK p a b n) (a + n) (b + n) = blcK p a b (n + 1) := by
  funext k
  unfold swpK blcK
  by_cases h1 : k = b + n
  · subst h1
    rw [if_pos rfl, if_neg (by omega), if_neg (by omega), if_neg (by omega), if_pos (by omega)]; congr 1; omega
  · rw [if_neg h1]
    by_cases h2 : k = a + n
    · subst h2
      rw [if_pos rfl, if_neg (by omega), if_neg (by omega), if_pos (by omega)]; congr 1; omega
    · rw [if_neg h2]
      by_cases h3 : a ≤ k ∧ k < a + n
      · rw [if_pos h3, if_pos (by omega)]
      · rw [if_neg h3, if_neg (c := a ≤ k ∧ k < a + (n + 1)) (by omega)]
        by_cases h4 : b ≤ k ∧ k < b + n
        · rw [if_pos h4, if_pos (by omega)]
        · rw [if_neg h4, if_neg (by omega)]
theorem rot_gt {i j : Nat} (h : j < i) : rotK (blcK p s (s + i) j) (s + j) (i - j) j = rotK p s i j := by
  funext k
  by_cases h1 : k < s
  · rw [rot_lo (by omega), rot_lo h1]; unfold blcK; rw [if_neg (by omega), if_neg (by omega)]
  · by_cases h2 : k < s + j
    · rw [rot_lo h2, rot_1 (by omega) h2]; unfold blcK; rw [if_pos (by omega)]; congr 1; omega
    · by_cases h3 : k < s + j + j
      · rw [rot_1 (by omega) h3, rot_2 (by omega) (by omega)]; unfold blcK; rw [if_neg (by omega), if_pos (by omega)]; congr 1; omega
      · by_cases h4 : k < s + j + i
        · rw [rot_2 (by omega) (by omega), rot_2 (by omega) h4]; unfold blcK; rw [if_neg (by omega), if_neg (by omega)]
        · rw [rot_hi (by omega), rot_hi (by omega)]; unfold blcK; rw [if_neg (by omega), if_neg (by omega)]
theorem rot_lt {i j : Nat} (h : i < j) : rotK (blcK p s (s + j) i) s i (j - i) = rotK p s i j := by
  funext k
  by_cases h1 : k < s
  · rw [rot_lo h1, rot_lo h1]; unfold blcK; rw [if_neg (by omega), if_neg (by omega)]
  · by_cases h2 : k < s + (j - i)
    · rw [rot_1 (by omega) h2, rot_1 (by omega) (by omega)]; unfold blcK; rw [if_neg (by omega), if_neg (by omega)]
    · by_cases h3 : k < s + j
      · rw [rot_2 (by omega) (by omega), rot_1 (by omega) h3]; unfold blcK; rw [if_pos (by omega)]; congr 1; omega
      · by_cases h4 : k < s + j + i
        · rw [rot_hi (by omega), rot_2 (by omega) h4]; unfold blcK; rw [if_neg (by omega), if_pos (by omega)]; congr 1; omega
        · rw [rot_hi (by omega), rot_hi (by omega)]; unfold blcK; rw [if_neg (by omega), if_neg (by omega)]
theorem rot_eq {i : Nat} : blcK p s (s + i) i = rotK p s i i := by
  funext k
  by_cases h1 : k < s
  · rw [rot_lo h1]; unfold blcK; rw [if_neg (by omega), if_neg (by omega)]
  · by_cases h2 : k < s + i
    · rw [rot_1 (by omega) h2]; unfold blcK; rw [if_pos (by omega)]; congr 1; omega
    · by_cases h3 : k < s + i + i
      · rw [rot_2 (by omega) h3]; unfold blcK; rw [if_neg (by omega), if_pos (by omega)]; congr 1; omega
      · rw [rot_hi (by omega)]; unfold blcK; rw [if_neg (by omega), if_neg (by omega)]
theorem rot_n0 : rotK p s n 0 = p := by
  funext k
  by_cases h1 : k < s
  · exact rot_lo h1
  · by_cases h2 : k < s + n
    · rw [rot_2 (by omega) (by omega)]; rfl
    · exact rot_hi (by omega)
theorem rot_0n : rotK p s 0 n = p := by
  funext k
  by_cases h1 : k < s
  · exact rot_lo h1
  · by_cases h2 : k < s + n
    · rw [rot_1 (by omega) (by omega)]; rfl
    · exact rot_hi (by omega)
/-- one is moved up by one more place -/
theorem rot_up : swpK (rotK p s 1 n) (s + n) (s + n + 1) = rotK p s 1 (n + 1) := by
  funext k
  unfold swpK
  by_cases h1 : k = s + n + 1
  · subst h1
    rw [if_pos rfl, rot_2 (by omega) (by omega), rot_2 (by omega) (by omega)]; congr 1; omega
  · rw [if_neg h1]
    by_cases h2 : k = s + n
    · subst h2
      rw [if_pos rfl, rot_hi (by omega), rot_1 (by omega) (by omega)]
    · rw [if_neg h2]
      by_cases h3 : k < s
      · rw [rot_lo h3, rot_lo h3]
      · by_cases h4 : k < s + n
        · rw [rot_1 (by omega) h4, rot_1 (by omega) (by omega)]
        · rw [rot_hi (by omega), rot_hi (by omega)]
/-- one is moved down by one more place -/
theorem rot_dn : swpK (rotK p (s + 1) n 1) (s + 1) s = rotK p s (n + 1) 1 := by
  funext k
  unfold swpK
  by_cases h1 : k = s
  · subst h1
    rw [if_pos rfl, rot_1 (by omega) (by omega), rot_1 (by omega) (by omega)]; congr 1; omega
  · rw [if_neg h1]
    by_cases h2 : k = s + 1
    · subst h2
      rw [if_pos rfl, rot_lo (by omega), rot_2 (by omega) (by omega)]; rfl
    · rw [if_neg h2]
      by_cases h3 : k < s
      · rw [rot_lo (by omega), rot_lo h3]
      · by_cases h4 : k < s + 1 + 1 + n
        · rw [rot_2 (by omega) h4, rot_2 (by omega) (by omega)]
        · rw [rot_hi (by omega), rot_hi (by omega)]
theorem rot_per {i j : Nat} (ha : a ≤ s) (hb : s + j + i ≤ b) : Per p (rotK p s i j) a b := by
  refine Per.wide (a := s) (b := s + j + i) ⟨fun k hk => ?_, fun x => ⟨?_, ?_⟩⟩ ha hb
  · rcases hk with h | h
    · exact rot_lo h
    · exact rot_hi h
  · rintro ⟨k, h1, h2, rfl⟩
    by_cases h3 : k < s + j
    · exact ⟨k + i, by omega, by omega, (rot_1 h1 h3).symm⟩
    · exact ⟨k - j, by omega, by omega, (rot_2 (by omega) h2).symm⟩
  · rintro ⟨k, h1, h2, rfl⟩
    by_cases h3 : k < s + i
    · exact ⟨k + j, by omega, by omega, by rw [rot_2 (by omega) (by omega)]; congr 1; omega⟩
    · exact ⟨k - i, by omega, by omega, by rw [rot_1 (by omega) (by omega)]; congr 1; omega⟩
/-- what stands from s to m goes behind what stands from m to e: what is left to be merged -/
theorem rot_half (h1 : a ≤ s) (h2 : s ≤ m) (h3 : m ≤ e) (h4 : e ≤ b) (A : Srt L p a m) (B : Srt L p m b) (S : Stb L p a m b) (hc : c = s + (e - m)) (x1 : s = a ∨ e = b ∨ ltK L (p (s - 1)) (p e)) (x2 : e = m ∨ s = m ∨ ltK L (p (e - 1)) (p s)) :
    let q := rotK p s (m - s) (e - m)
    Srt L q a s ∧ Srt L q s c ∧ Stb L q a s c ∧ Srt L q c e ∧ Srt L q e b ∧ Stb L q c e b ∧ Crs L q a c b := by
  intro q
  subst hc
  have q0 : ∀ k, k < s → q k = p k := fun k hk => rot_lo hk
  have q1 : ∀ k, s ≤ k → k < s + (e - m) → q k = p (k + (m - s)) := fun k hk hk2 => rot_1 hk hk2
  have q2 : ∀ k, s + (e - m) ≤ k → k < e → q k = p (k - (e - m)) := fun k hk hk2 => rot_2 hk (by omega)
  have q3 : ∀ k, e ≤ k → q k = p k := fun k hk => rot_hi (by omega)
  refine ⟨?_, ?_, ?_, ?_, ?_, ?_, ?_⟩
  · intro i j hi hij hj
    rw [q0 i (by omega), q0 j hj]; exact A i j hi hij (by omega)
  · intro i j hi hij hj
    rw [q1 i hi (by omega), q1 j (by omega) hj]; exact B _ _ (by omega) (by omega) (by omega)
  · intro i j hi his hsj hj
    rw [q0 i his, q1 j hsj hj]; exact S _ _ hi (by omega) (by omega) (by omega)
  · intro i j hi hij hj
    rw [q2 i hi (by omega), q2 j (by omega) hj]; exact A _ _ (by omega) (by omega) (by omega)
  · intro i j hi hij hj
    rw [q3 i hi, q3 j (by omega)]; exact B _ _ (by omega) hij hj
  · intro i j hi hie hej hj
    rw [q2 i hi hie, q3 j hej]; exact S _ _ (by omega) (by omega) (by omega) hj
  · have le1 : ∀ {P : Prop} {i j : Nat}, (a ≤ i ∧ i ≤ j ∧ j < m) → (i = j → P) → (ltK L (p i) (p j) → P) → P := fun {P} {i j} h f g => by
      by_cases hij : i = j
      · exact f hij
      · exact g (A i j h.1 (by omega) h.2.2)
    have le2 : ∀ {P : Prop} {i j : Nat}, (m ≤ i ∧ i ≤ j ∧ j < b) → (i = j → P) → (ltK L (p i) (p j) → P) → P := fun {P} {i j} h f g => by
      by_cases hij : i = j
      · exact f hij
      · exact g (B i j h.1 (by omega) h.2.2)
    intro i j hi hic hcj hj
    by_cases d1 : i < s
    · rw [q0 i d1]
      by_cases d2 : j < e
      · rw [q2 j hcj d2]; exact A _ _ hi (by omega) (by omega)
      · rw [q3 j (by omega)]
        have hx : ltK L (p (s - 1)) (p e) := by
          rcases x1 with h | h | h
          · omega
          · omega
          · exact h
        have hy : ltK L (p i) (p e) := le1 (i := i) (j := s - 1) ⟨hi, by omega, by omega⟩ (fun h => by rw [h]; exact hx) fun h => ltK_trans h hx
        exact le2 (i := e) (j := j) ⟨by omega, by omega, hj⟩ (fun h => by rw [← h]; exact hy) fun h => ltK_trans hy h
    · rw [q1 i (by omega) hic]
      by_cases d2 : j < e
      · rw [q2 j hcj d2]
        have hx : ltK L (p (e - 1)) (p s) := by
          rcases x2 with h | h | h
          · omega
          · omega
          · exact h
        have hy : ltK L (p (i + (m - s))) (p s) := le2 (i := i + (m - s)) (j := e - 1) ⟨by omega, by omega, by omega⟩ (fun h => by rw [h]; exact hx) fun h => ltK_trans h hx
        exact le1 (i := s) (j := j - (e - m)) ⟨by omega, by omega, by omega⟩ (fun h => by rw [← h]; exact hy) fun h => ltK_trans hy h
      · rw [q3 j (by omega)]; exact B _ _ (by omega) (by omega) hj
/-- one ahead: put in its place -/
theorem rot_one_up (h3 : a + 1 ≤ e) (h4 : e ≤ b) (B : Srt L p (a + 1) b) (x2 : e = a + 1 ∨ ltK L (p (e - 1)) (p a)) (x3 : e = b ∨ ltK L (p a) (p e)) : Srt L (rotK p a 1 (e - (a + 1))) a b := by
  have q1 : ∀ k, a ≤ k → k + 1 < e → rotK p a 1 (e - (a + 1)) k = p (k + 1) := fun k hk hk2 => rot_1 hk (by omega)
  have q2 : rotK p a 1 (e - (a + 1)) (e - 1) = p a := by rw [rot_2 (by omega) (by omega)]; congr 1; omega
  have q3 : ∀ k, e ≤ k → rotK p a 1 (e - (a + 1)) k = p k := fun k hk => rot_hi (by omega)
  intro i j hi hij hj
  by_cases d1 : i + 1 < e
  · rw [q1 i hi d1]
    by_cases d2 : j + 1 < e
    · rw [q1 j (by omega) d2]; exact B _ _ (by omega) (by omega) (by omega)
    · by_cases d3 : j = e - 1
      · rw [d3, q2]
        have hx := x2.resolve_left (by omega)
        by_cases d4 : i + 1 = e - 1
        · rw [d4]; exact hx
        · exact ltK_trans (B (i + 1) (e - 1) (by omega) (by omega) (by omega)) hx
      · rw [q3 j (by omega)]; exact B _ _ (by omega) (by omega) hj
  · by_cases d3 : i = e - 1
    · rw [d3, q2, q3 j (by omega)]
      have hx := x3.resolve_left (by omega)
      by_cases d4 : j = e
      · rw [d4]; exact hx
      · exact ltK_trans hx (B e j (by omega) (by omega) hj)
    · rw [q3 i (by omega), q3 j (by omega)]; exact B _ _ (by omega) hij hj
/-- one behind: put in its place -/
theorem rot_one_dn (h1 : a ≤ s) (h2 : s ≤ m) (A : Srt L p a m) (x1 : s = a ∨ ltK L (p (s - 1)) (p m)) (x3 : s = m ∨ ltK L (p m) (p s)) : Srt L (rotK p s (m - s) 1) a (m + 1) := by
  have q0 : ∀ k, k < s → rotK p s (m - s) 1 k = p k := fun k hk => rot_lo hk
  have q1 : rotK p s (m - s) 1 s = p m := by rw [rot_1 (by omega) (by omega)]; congr 1; omega
  have q2 : ∀ k, s < k → k ≤ m → rotK p s (m - s) 1 k = p (k - 1) := fun k hk hk2 => rot_2 (by omega) (by omega)
  intro i j hi hij hj
  by_cases d1 : i < s
  · rw [q0 i d1]
    by_cases d2 : j < s
    · rw [q0 j d2]; exact A _ _ hi hij (by omega)
    · by_cases d3 : j = s
      · rw [d3, q1]
        have hx := x1.resolve_left (by omega)
        by_cases d4 : i = s - 1
        · rw [d4]; exact hx
        · exact ltK_trans (A i (s - 1) hi (by omega) (by omega)) hx
      · rw [q2 j (by omega) (by omega)]; exact A _ _ hi (by omega) (by omega)
  · by_cases d3 : i = s
    · rw [d3, q1, q2 j (by omega) (by omega)]
      have hx := x3.resolve_left (by omega)
      by_cases d4 : j - 1 = s
      · rw [d4]; exact hx
      · exact ltK_trans hx (A s (j - 1) (by omega) (by omega) (by omega))
    · rw [q2 i (by omega) (by omega), q2 j (by omega) (by omega)]; exact A _ _ (by omega) (by omega) (by omega)
/-- in order up to i, but for place j, which comes ahead of those behind it -/
def MidK (L : List Wri) (p : Nat → Nat) (a i j : Nat) : Prop := (∀ x y, a ≤ x → x < y → y ≤ i → x ≠ j → y ≠ j → ltK L (p x) (p y)) ∧ ∀ y, j < y → y ≤ i → ltK L (p j) (p y)
theorem swp_1 : swpK p (n + 1) n n = p (n + 1) := if_pos rfl
theorem swp_2 : swpK p (n + 1) n (n + 1) = p n := by unfold swpK; rw [if_neg (by omega), if_pos rfl]
theorem swp_o (h1 : x ≠ n) (h2 : x ≠ n + 1) : swpK p (n + 1) n x = p x := by unfold swpK; rw [if_neg h1, if_neg h2]
theorem midK_swp {i : Nat} (M : MidK L p a i (n + 1)) (h0 : a ≤ n) (hj : n + 1 ≤ i) (hlt : ltK L (p (n + 1)) (p n)) : MidK L (swpK p (n + 1) n) a i n := by
  constructor
  · intro x y hx hxy hy hx1 hy1
    by_cases e1 : y = n + 1
    · rw [e1, swp_2, swp_o hx1 (by omega)]
      exact M.1 x n hx (by omega) (by omega) (by omega) (by omega)
    · rw [swp_o hy1 e1]
      by_cases e2 : x = n + 1
      · rw [e2, swp_2]; exact M.1 n y h0 (by omega) hy (by omega) e1
      · rw [swp_o hx1 e2]; exact M.1 x y hx hxy hy e2 e1
  · intro y h1 h2
    rw [swp_1]
    by_cases e : y = n + 1
    · rw [e, swp_2]; exact hlt
    · rw [swp_o (by omega) e]; exact M.2 y (by omega) h2
theorem midK_done {i j : Nat} (M : MidK L p a i j) (hj : j ≤ i) (h : j = a ∨ ltK L (p (j - 1)) (p j)) (ha : a ≤ j) : Srt L p a (i + 1) := by
  intro x y hx hxy hy
  by_cases e1 : x = j
  · rw [e1]; exact M.2 y (by omega) (by omega)
  · by_cases e2 : y = j
    · rw [e2] at hxy ⊢
      have h := h.resolve_left (by omega)
      by_cases e3 : x = j - 1
      · rw [e3]; exact h
      · exact ltK_trans (M.1 x (j - 1) hx (by omega) (by omega) e1 (by omega)) h
    · exact M.1 x y hx hxy (by omega) e1 e2
theorem swp_per (h0 : a ≤ n) (hb : n + 1 < b) : Per p (swpK p (n + 1) n) a b := by
  constructor
  · intro k hk; exact swp_o (by omega) (by omega)
  · intro x
    constructor
    · rintro ⟨k, h1, h2, rfl⟩
      by_cases e1 : k = n
      · exact ⟨n + 1, by omega, by omega, by rw [e1, swp_1]⟩
      · by_cases e2 : k = n + 1
        · exact ⟨n, by omega, by omega, by rw [e2, swp_2]⟩
        · exact ⟨k, h1, h2, (swp_o e1 e2).symm⟩
    · rintro ⟨k, h1, h2, rfl⟩
      by_cases e1 : k = n
      · exact ⟨n + 1, by omega, by omega, by rw [e1, swp_2]⟩
      · by_cases e2 : k = n + 1
        · exact ⟨n, by omega, by omega, by rw [e2, swp_1]⟩
        · exact ⟨k, h1, h2, swp_o e1 e2⟩
def rwK (L : List Wri) (p : Nat → Nat) (n : Nat) : List Wri := (List.range n).map fun i => L.getD (p i) default
theorem rwK_len : (rwK L p n).length = n := by simp [rwK]
theorem rwK_getD (h : x < n) : (rwK L p n).getD x default = L.getD (p x) default := by simp [rwK, List.getD, h]
theorem rwK_set : ((rwK L p n).set a (L.getD (p b) default)).set b (L.getD (p a) default) = rwK L (swpK p a b) n := by
  refine List.ext_getElem (by simp [rwK]) fun i h1 h2 => ?_
  simp only [rwK, List.getElem_set, List.getElem_map, List.getElem_range, swpK]
  by_cases e : b = i
  · subst e; simp
  · rw [if_neg e, if_neg (Ne.symm e)]
    by_cases e2 : a = i
    · subst e2; simp
    · rw [if_neg e2, if_neg (Ne.symm e2)]
theorem rwK_id : rwK L (fun i => i) L.length = L := by
  refine List.ext_getElem (by simp [rwK]) fun i h1 h2 => ?_
  simp [rwK, List.getD, h2]
end
end Go.Ev

set_option maxRecDepth 100000
set_option maxHeartbeats 8000000
set_option linter.all false
namespace Go.Ev
open Go
theorem store_bufN {h : H} {el n : Nat} {v : V} {xs ys vs : List V} {j : Nat} (b : Buf h el n v xs) (tp : Top h v) (hj : j + vs.length ≤ xs.length) (hfit : xs.length < 2 ^ 36) (h1 : allOne vs = true) (hv : 0 < vs.length) (hly : ys.length = xs.length)
    (hys : ∀ i z, ys[i]? = some z → (j ≤ i ∧ vs[i - j]? = some z) ∨ ((i < j ∨ j + vs.length ≤ i) ∧ xs[i]? = some z)) :
    ∃ h', (∀ k, store h (lid v) (lg v) (loff v + j) (lfin v) vs k = k h') ∧ Buf h' el n v ys ∧ Top h' v ∧ Stay (isOf v) h h' := by
  rcases b with ⟨rfl, rfl⟩ | ⟨id, g, m, blk, rfl, b1, b2, b3, b4, b5, b6, b7, b8, b9, b10⟩
  · simp at hj; rw [hj.2] at hv; cases hv
  obtain ⟨blk', b5', hcur⟩ := tp id g 0 m xs.length none rfl
  have hbb : blk' = blk := by rw [b5] at b5'; exact (Option.some.inj b5').symm
  subst hbb
  obtain ⟨next, floor, heap⟩ := h
  obtain ⟨cur, min, sz, cells, bel, fr⟩ := blk'
  simp only at b6 b7 b8 b9 b10 hcur
  subst hcur; subst b9
  obtain ⟨tr, t1, t2, t3⟩ := setList_fine vs j cells (by omega)
  obtain ⟨hp, s1, s2, s3⟩ := setK_ok id (⟨cur, cur, sz, tr, bel, 0⟩ : Blk) heap
  have e1 : B.geB floor id = true := by cases floor <;> first | rfl | (show Nat.ble _ _ = true; rw [Nat.ble_eq]; exact b3)
  have e2 : Nat.ble (Nat.add j vs.length) xs.length = true := by rw [Nat.ble_eq]; exact hj
  have e4 : frOk 0 j = true := rfl
  have e5 : Nat.beq cur cur = true := Nat.beq_refl cur
  have e6 : Nat.ble min cur = true := by rw [Nat.ble_eq]; exact b6.1
  have b5'' : heap.get id = some ⟨cur, min, sz, cells, bel, 0⟩ := b5
  refine ⟨⟨next, floor, hp⟩, fun k => ?_, .inr ⟨id, cur, m, _, by rw [hly], b1, by rw [hly]; exact b2, b3, b4, s2, ⟨Nat.le_refl _, Nat.le_refl _⟩, by rw [hly]; exact b7, b8, rfl, fun i z hz => ?_⟩, fun _ _ _ _ _ _ e => by cases e; exact ⟨_, s2, rfl⟩, ⟨rfl, Nat.le_refl _, fun id' _ hne => s3 id' fun e => hne (by subst e; exact ⟨_, _, _, _, _, rfl⟩)⟩⟩
  · show store ⟨next, floor, heap⟩ id cur (0 + j) xs.length vs k = _
    rw [Nat.zero_add]
    simp only [store, hK_mk, b5'', optK_some, blkK_mk, e5, e6, e1, e2, h1, e4, ifK_true]
    rw [t1, s1]
  · show tr.getN i = some z
    rcases hys i z hz with ⟨h2, h3⟩ | ⟨h2, h3⟩
    · have := t2 (i - j) z h3
      rwa [show j + (i - j) = i by omega] at this
    · rw [t3 i (by omega)]
      exact b10 i z h3
theorem set_cells {α : Type} [Inhabited α] {n : Nat} {c : α → List V} (hc : ∀ e, (c e).length = n) (hn : 1 ≤ n) {L : List α} {j : Nat} (hj : j < L.length) {x : α} : ∀ i z, ((L.set j x).flatMap c)[i]? = some z → (j * n ≤ i ∧ (c x)[i - j * n]? = some z) ∨ ((i < j * n ∨ j * n + (c x).length ≤ i) ∧ (L.flatMap c)[i]? = some z) := by
  intro i z hz
  have hil : i < L.length * n := by
    have h1 := (List.getElem?_eq_some_iff.1 hz).1
    rw [fm_len hc, List.length_set] at h1; exact h1
  have hd : i % n < n := Nat.mod_lt _ hn
  have hi : i = i / n * n + i % n := by rw [Nat.mul_comm]; exact (Nat.div_add_mod i n).symm
  have hq : i / n < L.length := (Nat.div_lt_iff_lt_mul hn).2 hil
  generalize i / n = q at *
  generalize i % n = d at *
  subst hi
  rw [fm_get hc (by rw [List.length_set]; exact hq) hd] at hz
  by_cases e : q = j
  · left
    subst e
    refine ⟨by omega, ?_⟩
    rw [show q * n + d - q * n = d by omega, ← hz]
    have : (L.set q x).getD q default = x := by simp [List.getD, hq]
    rw [this]
    have hdl : d < (c x).length := by rw [hc]; exact hd
    simp [List.getD, hdl]
  · right
    rw [fm_get hc hq hd, ← hz]
    refine ⟨?_, ?_⟩
    · rw [hc]
      rcases Nat.lt_or_gt_of_ne e with h | h
      · left
        have : (q + 1) * n ≤ j * n := Nat.mul_le_mul_right n h
        rw [Nat.add_mul] at this; omega
      · right
        have : (j + 1) * n ≤ q * n := Nat.mul_le_mul_right n h
        rw [Nat.add_mul] at this; omega
    · have : (L.set j x).getD q default = L.getD q default := by
        rw [List.getD_eq_getElem?_getD, List.getElem?_set_ne (fun h => e h.symm), ← List.getD_eq_getElem?_getD]
      rw [this]
/-- l[j] = x, of structs, where l grew and is the newest of its block -/
theorem st_bufS {P : Program} {α : Type} [Inhabited α] {n el : Nat} {c : α → List V} {h : H} {N : Nx} {v : V} {L : List α} {j : Nat} {x : α} (b : Buf h el n v (L.flatMap c)) (tp : Top h v) (hc : ∀ e, (c e).length = n) (hn : 1 ≤ n) (hj : j < L.length) (hl : L.length * n < 2 ^ 36) (h1 : allOne (c x) = true)
    (k : ∀ h', Buf h' el n v ((L.set j x).flatMap c) → Top h' v → Stay (isOf v) h h' → N.go P (.tu []) h') : ST P n (.p (lid v) (lg v) (loff v + j * n) (lfin v)) (.a (c x)) h N := by
  have hjn : (j + 1) * n ≤ L.length * n := Nat.mul_le_mul_right n hj
  rw [Nat.add_mul] at hjn
  obtain ⟨h', a1, a2, a3, a4⟩ := store_bufN (j := j * n) (vs := c x) (ys := (L.set j x).flatMap c) b tp (by rw [hc, fm_len hc]; omega) (by rw [fm_len hc]; exact hl) h1 (by rw [hc]; omega) (by rw [fm_len hc, fm_len hc, List.length_set]) (set_cells hc hn hj)
  refine hm_of (v := .tu []) (h' := h') (fun k => ?_) (k h' a2 a3 a4)
  show ifK (Nat.beq (c x).length n) (fun _ => store h _ _ _ _ (c x) fun h => k (.tu []) h) = _
  rw [hc, Nat.beq_refl, ifK_true, a1]
end Go.Ev

set_option linter.all false
namespace Go.Ev
open Go
/-- less of a block's cells -/
theorem Own.pre {h : H} {id : B} {xs ys : List V} (o : Own h id (xs ++ ys)) : Own h id xs := by
  obtain ⟨blk, h1, h2, h3, h4, h5, h6, h7⟩ := o
  refine ⟨blk, h1, h2, h3, h4, h5, h6, fun i y hy => h7 i y ?_⟩
  have hi := (List.getElem?_eq_some_iff.1 hy).1
  rw [List.getElem?_append_left hi]; exact hy
theorem Own.none {h : H} {id : B} {xs : List V} (o : Own h id xs) : Own h id [] := Own.pre (xs := []) (ys := xs) o
/-- cells stored behind those that are known -/
theorem store_end {h : H} {id : B} {xs vs : List V} {fin : Nat} (o : Own h id xs) (hj : xs.length + vs.length ≤ fin) (hfit : fin < 2 ^ 37) (h1 : allOne vs = true) : ∃ h', (∀ k, store h id 0 xs.length fin vs k = k h') ∧ Own h' id (xs ++ vs) ∧ Stay (fun i => i = id) h h' := by
  obtain ⟨blk, a1, a2, a3, a4, a5, a6, a7⟩ := o
  obtain ⟨next, floor, heap⟩ := h
  obtain ⟨cur, min, sz, cells, bel, fr⟩ := blk
  simp only at a2 a3 a4 a7
  subst a2; subst a3; subst a4
  obtain ⟨tr, t1, t2, t3⟩ := setList_fine vs xs.length cells (by omega)
  obtain ⟨hp, s1, s2, s3⟩ := setK_ok id (⟨0, 0, sz, tr, bel, 0⟩ : Blk) heap
  have e1 : B.geB floor id = true := by cases floor <;> first | rfl | (show Nat.ble _ _ = true; rw [Nat.ble_eq]; exact a5)
  have e2 : Nat.ble (Nat.add xs.length vs.length) fin = true := by rw [Nat.ble_eq]; exact hj
  have e4 : frOk 0 xs.length = true := rfl
  have e5 : Nat.beq 0 0 = true := rfl
  have e6 : Nat.ble 0 0 = true := rfl
  have a1' : heap.get id = some ⟨0, 0, sz, cells, bel, 0⟩ := a1
  refine ⟨⟨next, floor, hp⟩, fun k => ?_, ⟨_, s2, rfl, rfl, rfl, a5, a6, fun i z hz => ?_⟩, ⟨rfl, Nat.le_refl _, fun i _ hi => s3 i hi⟩⟩
  · simp only [store, hK_mk, a1', optK_some, blkK_mk, e5, e6, e1, e2, h1, e4, ifK_true]
    rw [t1, s1]
  · show tr.getN i = some z
    by_cases hi : i < xs.length
    · rw [List.getElem?_append_left hi] at hz
      rw [t3 i (by omega)]; exact a7 i z hz
    · rw [List.getElem?_append_right (by omega)] at hz
      have := t2 _ z hz
      rwa [show xs.length + (i - xs.length) = i by omega] at this
section
variable {P : Program} {h : H} {N : Nx} {id : B} {el size cnt len c : Nat} {x : V} {xs vs : List V}
/-- in place: there is room -/
theorem AP.made (o : Own h id xs) (hlen : xs.length = len * size) (hx : ∀ k : Nat → List V → Bool, newCells size x h k = k cnt vs) (hn : vs.length = cnt * size) (h1 : allOne vs = true) (hc : len + cnt ≤ c) (hfit : c * size < 2 ^ 37) (hcb : c < 18446744073709551616)
    (k : ∀ h', Own h' id (xs ++ vs) → Stay (fun i => i = id) h h' → N.go P (.l id 0 0 (len + cnt) (c * size) (some c)) h') : AP P el size (.l id 0 0 len (c * size) (some c)) x h N := by
  have hle : Nat.ble (Nat.add len cnt) c = true := by rw [Nat.ble_eq]; exact hc
  have hmul := Nat.mul_le_mul_right size hc
  rw [Nat.add_mul] at hmul
  cases cnt with
  | zero =>
    have hv : vs = [] := List.eq_nil_of_length_eq_zero (by rw [hn, Nat.zero_mul])
    subst hv
    refine hm_of (v := .l id 0 0 (len + 0) (c * size) (some c)) (h' := h) (fun q => ?_) (k h (by rw [List.append_nil]; exact o) ⟨rfl, Nat.le_refl _, fun _ _ _ => rfl⟩)
    rw [hx]
    show boolK (flagB c) _ (fun _ => boolK (Nat.ble (Nat.add len 0) c) (fun _ => appIn id 0 0 len (c * size) c size 0 [] h q) _) = _
    rw [flagB_of hcb, boolK_false, hle]; rfl
  | succ m =>
    obtain ⟨h', a1, a2, a3⟩ := store_end o (vs := vs) (fin := c * size) (by omega) hfit h1
    refine hm_of (v := .l id 0 0 (len + (m + 1)) (c * size) (some c)) (h' := h') (fun q => ?_) (k h' a2 a3)
    rw [hx]
    show boolK (flagB c) _ (fun _ => boolK (Nat.ble (Nat.add len (m + 1)) c) (fun _ => appIn id 0 0 len (c * size) c size (m + 1) vs h q) _) = _
    rw [flagB_of hcb, boolK_false, hle]
    show store h id 0 (Nat.add 0 (Nat.mul len size)) (c * size) vs (fun h => fN (Nat.add len (m + 1)) fun l' => q (.l id 0 0 l' (c * size) (some c)) h) = _
    rw [show Nat.add 0 (Nat.mul len size) = xs.length by rw [hlen]; show 0 + len * size = _; omega, a1, fN_eq]
    rfl
/-- append(S{}, s...): a new block, or the empty one -/
theorem AP.e1 {g off fin : Nat} (hx : ∀ k : Nat → List V → Bool, newCells size x h k = k cnt vs) (hf : B.val h.floor ≤ B.val h.next) (hn : vs.length = cnt * size) (hl : cnt ≤ 1048576) (hl2 : vs.length < 2 ^ 38)
    (k0 : cnt = 0 → N.go P (.l id g off 0 fin (some 0)) h)
    (k : ∀ h', 1 ≤ cnt → Stay nowhere h h' → B.val h'.next = B.val h.next + 1 → Buf h' el size (.l h.next 0 0 cnt vs.length none) vs → Top h' (.l h.next 0 0 cnt vs.length none) → N.go P (.l h.next 0 0 cnt vs.length none) h') : AP P el size (.l id g off 0 fin (some 0)) x h N := by
  cases cnt with
  | zero =>
    have hv : vs = [] := List.eq_nil_of_length_eq_zero (by rw [hn, Nat.zero_mul])
    subst hv
    exact hm_of (v := .l id g off 0 fin (some 0)) (h' := h) (fun q => by rw [hx]; rfl) (k0 rfl)
  | succ m =>
  obtain ⟨h', a1, a2, a3, blk, b1, b2, b3, b4, b5, b6, b7⟩ := alloc_new el vs h hl2
  have hble : Nat.ble (Nat.add 0 (m + 1)) 1048576 = true := by rw [Nat.ble_eq]; show 0 + (m + 1) ≤ _; omega
  have hno : Nat.ble (Nat.add 0 (m + 1)) 0 = false := by
    cases hx : Nat.ble (Nat.add 0 (m + 1)) 0 with
    | false => rfl
    | true => have := Nat.le_of_ble_eq_true hx; have h2 : 0 + (m + 1) ≤ 0 := this; omega
  refine hm_of (v := .l h.next 0 0 (m + 1) vs.length none) (h' := h') (fun q => ?_) (k h' (by omega) a2 a3 (.inr ⟨h.next, 0, m + 1, blk, rfl, by omega, hn, by rw [a2.floor]; exact hf, by omega, b1, ⟨by omega, by omega⟩, b4, b5, b6, b7⟩) ?_)
  · rw [hx]
    show boolK (flagB 0) (fun _ => appGrow (selB (Nat.ble 1 0) (Nat.beq size 1)) el id g off 0 fin size (m + 1) vs h q) (fun _ => boolK (Nat.ble (Nat.add 0 (m + 1)) 0) (fun _ => appIn id g off 0 fin 0 size (m + 1) vs h q) fun _ => appOut el id g off 0 fin size (m + 1) vs h q) = _
    rw [flagB_of (by omega), boolK_false, hno, boolK_false]
    unfold appOut
    rw [hble, ifK_true]
    show alloc el (app [] vs) h (fun id h => fN (Nat.add 0 (m + 1)) fun l' => fN (Nat.mul l' size) fun fin' => q (.l id 0 0 l' fin' none) h) = _
    rw [app_eq, List.nil_append, a1, fN_eq, fN_eq]
    show q (.l h.next 0 0 (0 + (m + 1)) ((0 + (m + 1)) * size) none) h' = _
    rw [Nat.zero_add, ← hn]
  · intro id' g off n fin cap e
    cases e
    exact ⟨blk, b1, b3⟩
end
end Go.Ev

set_option maxRecDepth 100000
set_option maxHeartbeats 8000000
set_option linter.all false
namespace Go.Proofs.Ythncpgkpkdolfaa
open Go Go.Ev
theorem cloneW0_ok {h : H} : FnOk Try.prog 38 [.l0] h fun y h' => y = .l0 ∧ h' = h := by
  refine fn_go c38 (by intro hb; cases hb) (by simp) (by simp) fun Q hQ => ?_
  simp only [slotsF, Nat.reduceAdd]
  repeat' (first
    | refine St.h ?_
    | simp (disch := first | omega | (simp only [lnv]; omega)) only [wlk, ↓get_put', ↓reduceIte, seval]
    | (with_reducible (first | apply cd_split | apply gd_split)) <;> (intro hc; (try simp only [hcn] at hc); (try simp only [hc]); (try simp only [hcl] at hc); try omega))
  subst hQ
  exact ⟨rfl, rfl⟩
/-- a row of one's own that is the newest of its block -/
def Rw (h : H) (v : V) (M : List Wri) : Prop := Buf h 49 3 v (M.flatMap wriC) ∧ Top h v
theorem Rw.ws {h : H} {v : V} {M : List Wri} (a : Rw h v M) : Ws h v M := Ss.buf a.1 rfl wriC_len (by omega)
theorem Rw.grow {h h' : H} {v : V} {M : List Wri} (a : Rw h v M) (s : Stay nowhere h h') : Rw h' v M := ⟨a.1.grow s, a.2.stay s (fun q hq => (a.1.own hq).2) fun _ _ e => e⟩
/-- what comes of a clone of writes -/
def ClW (h h' : H) (y : V) (L : List Wri) : Prop := (L = [] ∧ Ws h' y [] ∧ SwN 3 y) ∨ (L ≠ [] ∧ Rw h' y L ∧ SwN 3 y ∧ ∀ q, isOf y q → B.val h.next ≤ B.val q)
theorem cloneW1_ok {h : H} {id : B} {gg off len fin : Nat} {cap : Option Nat} {L : List Wri} (hL : Ws h (.l id gg off len fin cap) L) (hl : L.length ≤ 100000) (hf : B.val h.floor ≤ B.val h.next) : FnOk Try.prog 38 [.l id gg off len fin cap] h fun y h' => ClW h h' y L ∧ Stay nowhere h h' := by
  refine fn_go c38 (by intro hb; cases hb) (by simp) (by simp) fun Q hQ => ?_
  simp only [slotsF, Nat.reduceAdd]
  repeat' (first
    | refine St.h ?_
    | simp (disch := first | omega | (simp only [lnv]; omega)) only [wlk, ↓get_put', ↓reduceIte, seval]
    | (with_reducible (first | apply cd_split | apply gd_split)) <;> (intro hc; (try simp only [hcn] at hc); (try simp only [hc]); (try simp only [hcl] at hc); try omega))
  refine AL.own (by simp) hf fun h1 s1 n1 o1 => ?_
  have hf1 := s1.fl hf
  repeat' (first
    | refine St.h ?_
    | simp (disch := first | omega | (simp only [lnv]; omega)) only [wlk, ↓get_put', ↓reduceIte, seval]
    | (with_reducible (first | apply cd_split | apply gd_split)) <;> (intro hc; (try simp only [hcn] at hc); (try simp only [hc]); (try simp only [hcl] at hc); try omega))
  refine AP.e1 (new_ss (hL.grow s1) wriC_len (by omega)) hf1 (fm_len wriC_len L) (by omega) (by rw [fm_len wriC_len L]; omega) (fun e => ?_) fun h2 e s2 n2 b2 tp2 => ?_
  · have : L = [] := List.eq_nil_of_length_eq_zero e
    subst this
    repeat' (first
      | refine St.h ?_
      | simp (disch := first | omega | (simp only [lnv]; omega)) only [wlk, ↓get_put', ↓reduceIte, seval]
      | (with_reducible (first | apply cd_split | apply gd_split)) <;> (intro hc; (try simp only [hcn] at hc); (try simp only [hc]); (try simp only [hcl] at hc); try omega))
    subst hQ
    exact ⟨.inl ⟨rfl, Ss.lit o1 rfl wriC_len rfl (by simp), .inr ⟨_, _, _, _, _, _, rfl, by simp⟩⟩, s1⟩
  · repeat' (first
      | refine St.h ?_
      | simp (disch := first | omega | (simp only [lnv]; omega)) only [wlk, ↓get_put', ↓reduceIte, seval]
      | (with_reducible (first | apply cd_split | apply gd_split)) <;> (intro hc; (try simp only [hcn] at hc); (try simp only [hc]); (try simp only [hcl] at hc); try omega))
    subst hQ
    refine ⟨.inr ⟨fun e2 => by rw [e2] at e; simp at e, ⟨b2, tp2⟩, swn_buf12 b2, ?_⟩, s1.trans s2⟩
    rintro q ⟨_, _, _, _, _, e⟩
    cases e; exact s1.next
theorem cloneW_ok {h : H} {v : V} {L : List Wri} (hL : Ws h v L) (hl : L.length ≤ 100000) (hf : B.val h.floor ≤ B.val h.next) : FnOk Try.prog 38 [v] h fun y h' => ClW h h' y L ∧ Stay nowhere h h' := by
  have hL0 := hL
  rcases hL with ⟨rfl, rfl⟩ | ⟨id, gg, off, fin, cap, rfl, hh⟩
  · exact cloneW0_ok.mono fun y h' ⟨a, b⟩ => by rw [a, b]; exact ⟨.inl ⟨rfl, Ss.nil, .inl rfl⟩, Stay.refl _ _⟩
  · exact cloneW1_ok hL0 hl hf
theorem bcmp_ok {h : H} {x y : List UInt8} : FnOk Try.prog 59 [sv x, sv y] h fun z h' => z = .i .i64 (cmpI (decide (x = y)) (Op.bytesLess x y)) ∧ h' = h := by
  refine fn_go c59 (by intro hb; cases hb) (by simp) (by simp) fun Q hQ => ?_
  simp only [slotsF, Nat.reduceAdd]
  repeat' (first
    | refine St.h ?_
    | simp (disch := first | omega | (simp only [lnv]; omega)) only [wlk, ↓get_put', ↓reduceIte, seval]
    | (with_reducible (first | apply cd_split | apply gd_split)) <;> (intro hc; (try simp only [hcn] at hc); (try simp only [hc]); (try simp only [hcl] at hc); try omega))
  subst hQ
  exact ⟨rfl, rfl⟩
theorem scompare_ok {h : H} {x y : List UInt8} : FnOk Try.prog 52 [sv x, sv y] h fun z h' => z = .i .i64 (cmpI (decide (x = y)) (Op.bytesLess x y)) ∧ h' = h := by
  refine fn_go c52 (by intro hb; cases hb) (by simp) (by simp) fun Q hQ => ?_
  simp only [slotsF, Nat.reduceAdd]
  repeat' (first
    | refine St.h ?_
    | simp (disch := first | omega | (simp only [lnv]; omega)) only [wlk, ↓get_put', ↓reduceIte, seval]
    | (with_reducible (first | apply cd_split | apply gd_split)) <;> (intro hc; (try simp only [hcn] at hc); (try simp only [hc]); (try simp only [hcl] at hc); try omega))
  refine CL.pure bcmp_ok ?_
  repeat' (first
    | refine St.h ?_
    | simp (disch := first | omega | (simp only [lnv]; omega)) only [wlk, ↓get_put', ↓reduceIte, seval]
    | (with_reducible (first | apply cd_split | apply gd_split)) <;> (intro hc; (try simp only [hcn] at hc); (try simp only [hc]); (try simp only [hcl] at hc); try omega))
  subst hQ
  exact ⟨rfl, rfl⟩
def cmpW (a b : Wri) : Int := cmpI (decide (a.key = b.key)) (Op.bytesLess a.key b.key)
theorem cmpW_t {L : List Wri} {x y : Nat} (h : klK L x y = true) : (cmpW (L.getD x default) (L.getD y default) < 0) = True := by
  unfold klK at h
  unfold cmpW; rw [h, decide_eq_false (bl_ne h)]; exact eq_true (by decide)
theorem cmpW_f {L : List Wri} {x y : Nat} (h : klK L x y = false) : (cmpW (L.getD x default) (L.getD y default) < 0) = False := by
  unfold klK at h
  unfold cmpW; rw [h]
  by_cases e : (L.getD x default).key = (L.getD y default).key
  · rw [decide_eq_true e]; exact eq_false (by decide)
  · rw [decide_eq_false e]; exact eq_false (by decide)
theorem byKey12_ok {h : H} {a b : Wri} (hf : B.val h.floor ≤ B.val h.next) : FnOk Try.prog 40 [.a [sv a.key, .b a.del, sv a.val], .a [sv b.key, .b b.del, sv b.val]] h fun y h' => y = .i .i64 (cmpW a b) ∧ Stay nowhere h h' := by
  refine fn_go c40 (by intro hb; cases hb) (by simp) (by simp) fun Q hQ => ?_
  simp only [slotsF, Nat.reduceAdd]
  repeat' (first
    | refine St.h ?_
    | simp (disch := first | omega | (simp only [lnv]; omega)) only [wlk, ↓get_put', ↓reduceIte, seval]
    | (with_reducible (first | apply cd_split | apply gd_split)) <;> (intro hc; (try simp only [hcn] at hc); (try simp only [hc]); (try simp only [hcl] at hc); try omega))
  refine AL.own (by simp) hf fun h1 s1 n1 o1 => ?_
  repeat' (first
    | refine St.h ?_
    | simp (disch := first | omega | (simp only [lnv]; omega)) only [wlk, ↓get_put', ↓reduceIte, seval]
    | (with_reducible (first | apply cd_split | apply gd_split)) <;> (intro hc; (try simp only [hcn] at hc); (try simp only [hc]); (try simp only [hcl] at hc); try omega))
  refine AL.own (by simp) (s1.fl hf) fun h2 s2 n2 o2 => ?_
  have o1 := o1.stay s2 fun h => h
  repeat' (first
    | refine St.h ?_
    | simp (disch := first | omega | (simp only [lnv]; omega)) only [wlk, ↓get_put', ↓reduceIte, seval, o1.row.l1, o2.row.l1]
    | (with_reducible (first | apply cd_split | apply gd_split)) <;> (intro hc; (try simp only [hcn] at hc); (try simp only [hc]); (try simp only [hcl] at hc); try omega))
  refine CL.pure scompare_ok ?_
  repeat' (first
    | refine St.h ?_
    | simp (disch := first | omega | (simp only [lnv]; omega)) only [wlk, ↓get_put', ↓reduceIte, seval]
    | (with_reducible (first | apply cd_split | apply gd_split)) <;> (intro hc; (try simp only [hcn] at hc); (try simp only [hc]); (try simp only [hcl] at hc); try omega))
  subst hQ
  exact ⟨rfl, s1.trans s2⟩
section
variable {L : List Wri} {N : Nat} {c : V}
theorem swapR_ok {h : H} {v : V} {p : Nat → Nat} {a b k : Nat} (hb : Rw h v (rwK L p N)) (hN : N ≤ 1000) (h1 : a + k ≤ b) (h2 : b + k ≤ N) (hf : B.val h.floor ≤ B.val h.next) : FnOk Try.prog 62 [v, .i .i64 (a : Int), .i .i64 (b : Int), .i .i64 (k : Int), c] h fun y h' =>
    Rw h' v (rwK L (blcK p a b k) N) ∧ Stay (isOf v) h h' := by
  refine fn_go c62 (by intro hb; cases hb) (by simp) (by simp) fun Q hQ => ?_
  simp only [slotsF, Nat.reduceAdd]
  repeat' (first
    | refine St.h ?_
    | simp (disch := first | omega | (simp only [lnv]; omega)) only [wlk, ↓get_put', ↓reduceIte, seval]
    | (with_reducible (first | apply cd_split | apply gd_split)) <;> (intro hc; (try simp only [hcn] at hc); (try simp only [hc]); (try simp only [hcl] at hc); try omega))
  refine Ok.lp (fun m t g => ∃ i : Nat, m = k - i ∧ i ≤ k ∧ get 0 t = v ∧ get 1 t = .i .i64 (a : Int) ∧ get 2 t = .i .i64 (b : Int) ∧ get 3 t = .i .i64 (k : Int) ∧ get 10 t = .i .i64 (i : Int) ∧ Rw g v (rwK L (blcK p a b i) N) ∧ Stay (isOf v) h g) k ?_ ?_
  · simp (disch := first | omega | (simp only [lnv]; omega)) only [wlk, ↓get_put', ↓reduceIte, seval]
    refine ⟨0, by omega, by omega, ?_⟩
    refine ⟨?_, ?_, ?_, ?_, ?_, by rw [blc_zero]; exact hb, ⟨rfl, Nat.le_refl _, fun _ _ _ => rfl⟩⟩
    all_goals first | trivial | rfl
  rintro I hI m t g ⟨i, rfl, hi, f0, f1, f2, f3, f10, rb, st⟩
  have hfg := st.fl hf
  by_cases hik : i < k
  case neg =>
    obtain rfl : i = k := by omega
    repeat' (first
      | refine St.h ?_
      | simp (disch := first | omega | (simp only [lnv]; omega)) only [wlk, ↓get_put', ↓reduceIte, seval, f0, f1, f2, f3, f10]
      | (with_reducible (first | apply cd_split | apply gd_split)) <;> (intro hc; (try simp only [hcn] at hc); (try simp only [hc]); (try simp only [hcl] at hc); try omega))
    subst hQ
    exact ⟨rb, st⟩
  have ea : ((a : Int) + (i : Int)).toNat = a + i := by omega
  have eb : ((b : Int) + (i : Int)).toNat = b + i := by omega
  have W1 := rb.ws
  have ln : (rwK L (blcK p a b i) N).length = N := rwK_len
  have ga : (rwK L (blcK p a b i) N).getD (a + i) default = L.getD (blcK p a b i (a + i)) default := rwK_getD (by omega)
  have gb : (rwK L (blcK p a b i) N).getD (b + i) default = L.getD (blcK p a b i (b + i)) default := rwK_getD (by omega)
  repeat' (first
    | refine St.h ?_
    | simp (disch := first | omega | (simp only [lnv]; omega)) only [wlk, ↓get_put', ↓reduceIte, seval, f0, f1, f2, f3, f10, W1.ix, W1.la, ea, eb, ga, gb, Int.toNat_natCast]
    | (with_reducible (first | apply cd_split | apply gd_split)) <;> (intro hc; (try simp only [hcn] at hc); (try simp only [hc]); (try simp only [hcl] at hc); try omega))
  refine st_bufS (c := wriC) (x := L.getD (blcK p a b i (b + i)) default) rb.1 rb.2 wriC_len (by omega) (by omega) (by omega) rfl fun h3 B3 T3 s3 => ?_
  have W3 : Ws h3 v ((rwK L (blcK p a b i) N).set (a + i) (L.getD (blcK p a b i (b + i)) default)) := Ss.buf B3 rfl wriC_len (by omega)
  repeat' (first
    | refine St.h ?_
    | simp (disch := first | omega | (simp only [lnv]; omega)) only [wlk, ↓get_put', ↓reduceIte, seval, f0, f1, f2, f3, f10, eb, W3.ix]
    | (with_reducible (first | apply cd_split | apply gd_split)) <;> (intro hc; (try simp only [hcn] at hc); (try simp only [hc]); (try simp only [hcl] at hc); try omega))
  refine st_bufS (c := wriC) (x := L.getD (blcK p a b i (a + i)) default) B3 T3 wriC_len (by omega) (by rw [List.length_set]; omega) (by rw [List.length_set]; omega) rfl fun h4 B4 T4 s4 => ?_
  rw [rwK_set, blc_succ (by omega)] at B4
  repeat' (first
    | refine St.h ?_
    | simp (disch := first | omega | (simp only [lnv]; omega)) only [wlk, ↓get_put', ↓reduceIte, seval, f0, f1, f2, f3, f10]
    | (with_reducible (first | apply cd_split | apply gd_split)) <;> (intro hc; (try simp only [hcn] at hc); (try simp only [hc]); (try simp only [hcl] at hc); try omega))
  refine lp_next hI (k - (i + 1)) (by omega) ⟨i + 1, rfl, by omega, by simp (disch := first | omega | (simp only [lnv]; omega)) only [wlk, ↓get_put', ↓reduceIte, seval, f0], by simp (disch := first | omega | (simp only [lnv]; omega)) only [wlk, ↓get_put', ↓reduceIte, seval, f1], by simp (disch := first | omega | (simp only [lnv]; omega)) only [wlk, ↓get_put', ↓reduceIte, seval, f2], by simp (disch := first | omega | (simp only [lnv]; omega)) only [wlk, ↓get_put', ↓reduceIte, seval, f3], by simp (disch := first | omega | (simp only [lnv]; omega)) only [wlk, ↓get_put', ↓reduceIte, seval, f10]; rfl, ⟨B4, T4⟩, st.trans (s3.trans s4)⟩
theorem rot_ok {h : H} {v : V} {p : Nat → Nat} {a m b : Nat} (hb : Rw h v (rwK L p N)) (hN : N ≤ 1000) (h1 : a < m) (h2 : m < b) (h3 : b ≤ N) (hf : B.val h.floor ≤ B.val h.next) : FnOk Try.prog 60 [v, .i .i64 (a : Int), .i .i64 (m : Int), .i .i64 (b : Int), c] h fun y h' =>
    Rw h' v (rwK L (rotK p a (m - a) (b - m)) N) ∧ Stay (isOf v) h h' := by
  have e1 : (m : Int) - (a : Int) = ((m - a : Nat) : Int) := by omega
  have e2 : (b : Int) - (m : Int) = ((b - m : Nat) : Int) := by omega
  refine fn_go c60 (by intro hb; cases hb) (by simp) (by simp) fun Q hQ => ?_
  simp only [slotsF, Nat.reduceAdd]
  repeat' (first
    | refine St.h ?_
    | simp (disch := first | omega | (simp only [lnv]; omega)) only [wlk, ↓get_put', ↓reduceIte, seval]
    | (with_reducible (first | apply cd_split | apply gd_split)) <;> (intro hc; (try simp only [hcn] at hc); (try simp only [hc]); (try simp only [hcl] at hc); try omega))
  refine Ok.lp (fun k t g => ∃ (i j : Nat) (q : Nat → Nat), k = i + j ∧ 1 ≤ i ∧ 1 ≤ j ∧ i ≤ m - a ∧ j ≤ b - m ∧ get 0 t = v ∧ get 2 t = .i .i64 (m : Int) ∧ get 4 t = c ∧ get 10 t = .i .i64 (i : Int) ∧ get 11 t = .i .i64 (j : Int) ∧ rotK q (m - i) i j = rotK p a (m - a) (b - m) ∧ Rw g v (rwK L q N) ∧ Stay (isOf v) h g) (b - a) ?_ ?_
  · simp (disch := first | omega | (simp only [lnv]; omega)) only [wlk, ↓get_put', ↓reduceIte, seval, e1, e2]
    refine ⟨m - a, b - m, p, by omega, by omega, by omega, by omega, by omega, ?_⟩
    refine ⟨?_, ?_, ?_, ?_, ?_, by rw [show m - (m - a) = a by omega], hb, ⟨rfl, Nat.le_refl _, fun _ _ _ => rfl⟩⟩
    all_goals first | trivial | rfl
  rintro I hI k t g ⟨i, j, q, rfl, hi, hj, hi2, hj2, f0, f2, f4, f10, f11, hr, rb, st⟩
  have hfg := st.fl hf
  have em : (m : Int) - (i : Int) = ((m - i : Nat) : Int) := by omega
  by_cases hij : i = j
  · subst hij
    have d1 : ((i : Int) = (i : Int)) = True := eq_true rfl
    repeat' (first
      | refine St.h ?_
      | simp (disch := first | omega | (simp only [lnv]; omega)) only [wlk, ↓get_put', ↓reduceIte, seval, f0, f2, f4, f10, f11, d1, em]
      | (with_reducible (first | apply cd_split | apply gd_split)) <;> (intro hc; (try simp only [hcn] at hc); (try simp only [hc]); (try simp only [hcl] at hc); try omega))
    refine CL.mk (swapR_ok (c := c) (a := m - i) (b := m) (k := i) rb hN (by omega) (by omega) hfg) ?_
    rintro y g1 ⟨rb1, s1⟩
    repeat' (first
      | refine St.h ?_
      | simp (disch := first | omega | (simp only [lnv]; omega)) only [wlk, ↓get_put', ↓reduceIte, seval]
      | (with_reducible (first | apply cd_split | apply gd_split)) <;> (intro hc; (try simp only [hcn] at hc); (try simp only [hc]); (try simp only [hcl] at hc); try omega))
    subst hQ
    have := rot_eq (p := q) (s := m - i) (i := i)
    rw [show m - i + i = m by omega, hr] at this
    rw [this] at rb1
    exact ⟨rb1, st.trans s1⟩
  have d1 : ((i : Int) = (j : Int)) = False := eq_false (by omega)
  by_cases hgt : j < i
  · have d2 : ((j : Int) < (i : Int)) = True := eq_true (by omega)
    have e3 : (i : Int) - (j : Int) = ((i - j : Nat) : Int) := by omega
    repeat' (first
      | refine St.h ?_
      | simp (disch := first | omega | (simp only [lnv]; omega)) only [wlk, ↓get_put', ↓reduceIte, seval, f0, f2, f4, f10, f11, d1, d2, em]
      | (with_reducible (first | apply cd_split | apply gd_split)) <;> (intro hc; (try simp only [hcn] at hc); (try simp only [hc]); (try simp only [hcl] at hc); try omega))
    refine CL.mk (swapR_ok (c := c) (a := m - i) (b := m) (k := j) rb hN (by omega) (by omega) hfg) ?_
    rintro y g1 ⟨rb1, s1⟩
    repeat' (first
      | refine St.h ?_
      | simp (disch := first | omega | (simp only [lnv]; omega)) only [wlk, ↓get_put', ↓reduceIte, seval, f0, f2, f4, f10, f11]
      | (with_reducible (first | apply cd_split | apply gd_split)) <;> (intro hc; (try simp only [hcn] at hc); (try simp only [hc]); (try simp only [hcl] at hc); try omega))
    refine lp_next hI (i - j + j) (by omega) ⟨i - j, j, _, rfl, by omega, by omega, by omega, by omega, by simp (disch := first | omega | (simp only [lnv]; omega)) only [wlk, ↓get_put', ↓reduceIte, seval, f0], by simp (disch := first | omega | (simp only [lnv]; omega)) only [wlk, ↓get_put', ↓reduceIte, seval, f2], by simp (disch := first | omega | (simp only [lnv]; omega)) only [wlk, ↓get_put', ↓reduceIte, seval, f4], by simp (disch := first | omega | (simp only [lnv]; omega)) only [wlk, ↓get_put', ↓reduceIte, seval, e3], by simp (disch := first | omega | (simp only [lnv]; omega)) only [wlk, ↓get_put', ↓reduceIte, seval, f11], ?_, rb1, st.trans s1⟩
    have := rot_gt (p := q) (s := m - i) hgt
    rw [show m - i + i = m by omega, show m - i + j = m - (i - j) by omega] at this
    rw [this]; exact hr
  · have d2 : ((j : Int) < (i : Int)) = False := eq_false (by omega)
    have e3 : (j : Int) - (i : Int) = ((j - i : Nat) : Int) := by omega
    have e4 : (m : Int) + (j : Int) - (i : Int) = ((m + j - i : Nat) : Int) := by omega
    repeat' (first
      | refine St.h ?_
      | simp (disch := first | omega | (simp only [lnv]; omega)) only [wlk, ↓get_put', ↓reduceIte, seval, f0, f2, f4, f10, f11, d1, d2, em, e4]
      | (with_reducible (first | apply cd_split | apply gd_split)) <;> (intro hc; (try simp only [hcn] at hc); (try simp only [hc]); (try simp only [hcl] at hc); try omega))
    refine CL.mk (swapR_ok (c := c) (a := m - i) (b := m + j - i) (k := i) rb hN (by omega) (by omega) hfg) ?_
    rintro y g1 ⟨rb1, s1⟩
    repeat' (first
      | refine St.h ?_
      | simp (disch := first | omega | (simp only [lnv]; omega)) only [wlk, ↓get_put', ↓reduceIte, seval, f0, f2, f4, f10, f11]
      | (with_reducible (first | apply cd_split | apply gd_split)) <;> (intro hc; (try simp only [hcn] at hc); (try simp only [hc]); (try simp only [hcl] at hc); try omega))
    refine lp_next hI (i + (j - i)) (by omega) ⟨i, j - i, _, rfl, by omega, by omega, by omega, by omega, by simp (disch := first | omega | (simp only [lnv]; omega)) only [wlk, ↓get_put', ↓reduceIte, seval, f0], by simp (disch := first | omega | (simp only [lnv]; omega)) only [wlk, ↓get_put', ↓reduceIte, seval, f2], by simp (disch := first | omega | (simp only [lnv]; omega)) only [wlk, ↓get_put', ↓reduceIte, seval, f4], by simp (disch := first | omega | (simp only [lnv]; omega)) only [wlk, ↓get_put', ↓reduceIte, seval, f10], by simp (disch := first | omega | (simp only [lnv]; omega)) only [wlk, ↓get_put', ↓reduceIte, seval, e3], ?_, rb1, st.trans s1⟩
    have := rot_lt (p := q) (s := m - i) (show i < j by omega)
    rw [show m - i + j = m + j - i by omega] at this
    rw [this]; exact hr
theorem isortW_ok {h : H} {v : V} {p : Nat → Nat} {a b : Nat} (hb : Rw h v (rwK L p N)) (hN : N ≤ 1000) (h1 : a ≤ b) (h2 : b ≤ N) (hp : ∀ k, a ≤ k → k < b → p k = k) (hf : B.val h.floor ≤ B.val h.next) : FnOk Try.prog 57 [v, .i .i64 (a : Int), .i .i64 (b : Int), .f 40 []] h fun y h' =>
    ∃ q, Per p q a b ∧ Srt L q a b ∧ Rw h' v (rwK L q N) ∧ Stay (isOf v) h h' := by
  refine fn_go c57 (by intro hb; cases hb) (by simp) (by simp) fun Q hQ => ?_
  simp only [slotsF, Nat.reduceAdd]
  repeat' (first
    | refine St.h ?_
    | simp (disch := first | omega | (simp only [lnv]; omega)) only [wlk, ↓get_put', ↓reduceIte, seval]
    | (with_reducible (first | apply cd_split | apply gd_split)) <;> (intro hc; (try simp only [hcn] at hc); (try simp only [hc]); (try simp only [hcl] at hc); try omega))
  by_cases hab : a < b
  case neg =>
    refine Ok.lp (fun m t g => m = 0 ∧ h = g ∧ get 2 t = .i .i64 (b : Int) ∧ get 8 t = .i .i64 ((a : Int) + 1)) 0 ?_ ?_
    · simp (disch := first | omega | (simp only [lnv]; omega)) only [wlk, ↓get_put', ↓reduceIte, seval]
      repeat' (first | trivial | rfl | refine And.intro ?_ ?_)
    rintro I hI m t g ⟨rfl, rfl, f2, f8⟩
    have d1 : ((a : Int) + 1 < (b : Int)) = False := eq_false (by omega)
    repeat' (first
      | refine St.h ?_
      | simp (disch := first | omega | (simp only [lnv]; omega)) only [wlk, ↓get_put', ↓reduceIte, seval, f2, f8, d1]
      | (with_reducible (first | apply cd_split | apply gd_split)) <;> (intro hc; (try simp only [hcn] at hc); (try simp only [hc]); (try simp only [hcl] at hc); try omega))
    subst hQ
    exact ⟨p, Per.refl, fun i j h1 h2 h3 => by omega, hb, ⟨rfl, Nat.le_refl _, fun _ _ _ => rfl⟩⟩
  refine Ok.lp (fun m t g => ∃ (i : Nat) (q : Nat → Nat), m = b - i ∧ a + 1 ≤ i ∧ i ≤ b ∧ get 0 t = v ∧ get 1 t = .i .i64 (a : Int) ∧ get 2 t = .i .i64 (b : Int) ∧ get 3 t = .f 40 [] ∧ get 8 t = .i .i64 (i : Int) ∧ Per p q a i ∧ Srt L q a i ∧ Rw g v (rwK L q N) ∧ Stay (isOf v) h g) (b - (a + 1)) ?_ ?_
  · simp (disch := first | omega | (simp only [lnv]; omega)) only [wlk, ↓get_put', ↓reduceIte, seval]
    refine ⟨a + 1, p, by omega, by omega, by omega, ?_⟩
    refine ⟨?_, ?_, ?_, ?_, ?_, Per.refl, fun i j h1 h2 h3 => by omega, hb, ⟨rfl, Nat.le_refl _, fun _ _ _ => rfl⟩⟩
    all_goals first | trivial | rfl
  rintro I hI m t g ⟨i, q, rfl, hi1, hi2, f0, f1, f2, f3, f8, hper, hs, rb, st⟩
  have hfg := st.fl hf
  by_cases hib : i < b
  case neg =>
    obtain rfl : i = b := by omega
    repeat' (first
      | refine St.h ?_
      | simp (disch := first | omega | (simp only [lnv]; omega)) only [wlk, ↓get_put', ↓reduceIte, seval, f0, f1, f2, f3, f8]
      | (with_reducible (first | apply cd_split | apply gd_split)) <;> (intro hc; (try simp only [hcn] at hc); (try simp only [hc]); (try simp only [hcl] at hc); try omega))
    subst hQ
    exact ⟨q, hper, hs, rb, st⟩
  have hqi : q i = i := by rw [hper.out i (.inr (Nat.le_refl _)), hp i (by omega) hib]
  have hql : ∀ k, a ≤ k → k < i → q k < i := fun k k1 k2 => by
    obtain ⟨j, j1, j2, j3⟩ := (hper.mem (q k)).1 ⟨k, k1, k2, rfl⟩
    rw [← j3, hp j j1 (by omega)]; exact j2
  repeat' (first
    | refine St.h ?_
    | simp (disch := first | omega | (simp only [lnv]; omega)) only [wlk, ↓get_put', ↓reduceIte, seval, f0, f1, f2, f3, f8]
    | (with_reducible (first | apply cd_split | apply gd_split)) <;> (intro hc; (try simp only [hcn] at hc); (try simp only [hc]); (try simp only [hcl] at hc); try omega))
  refine Ok.lp (fun m t g => ∃ (j : Nat) (q : Nat → Nat), m = j ∧ a ≤ j ∧ j ≤ i ∧ get 0 t = v ∧ get 1 t = .i .i64 (a : Int) ∧ get 2 t = .i .i64 (b : Int) ∧ get 3 t = .f 40 [] ∧ get 8 t = .i .i64 (i : Int) ∧ get 9 t = .i .i64 (j : Int) ∧ MidK L q a i j ∧ Per p q a (i + 1) ∧ q j = i ∧ (∀ k, a ≤ k → k ≤ i → k ≠ j → q k < i) ∧ Rw g v (rwK L q N) ∧ Stay (isOf v) h g) i ?_ ?_
  · simp (disch := first | omega | (simp only [lnv]; omega)) only [wlk, ↓get_put', ↓reduceIte, seval, f0, f1, f2, f3, f8]
    refine ⟨i, q, by omega, by omega, by omega, ?_⟩
    refine ⟨?_, ?_, ?_, ?_, ?_, ?_, ⟨fun x y x1 x2 x3 x4 x5 => hs x y x1 x2 (by omega), fun y y1 y2 => by omega⟩, hper.wide (Nat.le_refl _) (by omega), hqi, fun k k1 k2 k3 => hql k k1 (by omega), rb, st⟩
    all_goals first | trivial | rfl
  rintro I2 hI2 m2 t2 g2 ⟨j, q2, rfl, hj1, hj2, e0, e1, e2, e3, e8, e9, hM, hper2, hqj, hql2, rb2, st2⟩
  have hfg2 := st2.fl hf
  have done : ∀ g3, Rw g3 v (rwK L q2 N) → Stay (isOf v) h g3 → (m2 = a ∨ ltK L (q2 (m2 - 1)) (q2 m2)) → ∀ t3 : F, get 0 t3 = v → get 1 t3 = .i .i64 (a : Int) → get 2 t3 = .i .i64 (b : Int) → get 3 t3 = .f 40 [] → get 8 t3 = .i .i64 ((i + 1 : Nat) : Int) → LpG I (b - i) t3 g3 := fun g3 r3 s3 hd t3 x0 x1 x2 x3 x8 => by
    exact lp_next hI (b - (i + 1)) (by omega) ⟨i + 1, q2, rfl, by omega, by omega, x0, x1, x2, x3, x8, hper2, midK_done hM hj2 hd hj1, r3, s3⟩
  by_cases hja : a < m2
  case neg =>
    obtain rfl : m2 = a := by omega
    have d1 : ((m2 : Int) < (m2 : Int)) = False := eq_false (by omega)
    repeat' (first
      | refine St.h ?_
      | simp (disch := first | omega | (simp only [lnv]; omega)) only [wlk, ↓get_put', ↓reduceIte, seval, e0, e1, e2, e3, e8, e9, d1]
      | (with_reducible (first | apply cd_split | apply gd_split)) <;> (intro hc; (try simp only [hcn] at hc); (try simp only [hc]); (try simp only [hcl] at hc); try omega))
    exact done _ rb2 st2 (.inl rfl) _ (by simp (disch := first | omega | (simp only [lnv]; omega)) only [wlk, ↓get_put', ↓reduceIte, seval, e0]) (by simp (disch := first | omega | (simp only [lnv]; omega)) only [wlk, ↓get_put', ↓reduceIte, seval, e1]) (by simp (disch := first | omega | (simp only [lnv]; omega)) only [wlk, ↓get_put', ↓reduceIte, seval, e2]) (by simp (disch := first | omega | (simp only [lnv]; omega)) only [wlk, ↓get_put', ↓reduceIte, seval, e3]) (by simp (disch := first | omega | (simp only [lnv]; omega)) only [wlk, ↓get_put', ↓reduceIte, seval, e8]; rfl)
  have d1 : ((a : Int) < (m2 : Int)) = True := eq_true (by omega)
  obtain ⟨n, rfl⟩ : ∃ n, m2 = n + 1 := ⟨m2 - 1, by omega⟩
  have en : (((n + 1 : Nat) : Int) - 1).toNat = n := by omega
  have W2 := rb2.ws
  have ln : (rwK L q2 N).length = N := rwK_len
  have ga : (rwK L q2 N).getD (n + 1) default = L.getD (q2 (n + 1)) default := rwK_getD (by omega)
  have gb : (rwK L q2 N).getD n default = L.getD (q2 n) default := rwK_getD (by omega)
  repeat' (first
    | refine St.h ?_
    | simp (disch := first | omega | (simp only [lnv]; omega)) only [wlk, ↓get_put', ↓reduceIte, seval, e0, e1, e2, e3, e8, e9, d1, W2.ix, W2.la, en, ga, gb, Int.toNat_natCast]
    | (with_reducible (first | apply cd_split | apply gd_split)) <;> (intro hc; (try simp only [hcn] at hc); (try simp only [hc]); (try simp only [hcl] at hc); try omega))
  refine CL.stay (byKey12_ok (a := L.getD (q2 (n + 1)) default) (b := L.getD (q2 n) default) hfg2) fun g3 s3 => ?_
  have rb3 := rb2.grow s3
  have st3 := st2.trans (s3.mono fun _ _ hq => hq.elim)
  have W3 := rb3.ws
  cases hk : klK L (q2 (n + 1)) (q2 n) with
  | false =>
    have d2 := cmpW_f hk
    repeat' (first
      | refine St.h ?_
      | simp (disch := first | omega | (simp only [lnv]; omega)) only [wlk, ↓get_put', ↓reduceIte, seval, e0, e1, e2, e3, e8, e9, d1, d2]
      | (with_reducible (first | apply cd_split | apply gd_split)) <;> (intro hc; (try simp only [hcn] at hc); (try simp only [hc]); (try simp only [hcl] at hc); try omega))
    refine done _ rb3 st3 (.inr (ltK_no hk fun _ => ?_)) _ (by simp (disch := first | omega | (simp only [lnv]; omega)) only [wlk, ↓get_put', ↓reduceIte, seval, e0]) (by simp (disch := first | omega | (simp only [lnv]; omega)) only [wlk, ↓get_put', ↓reduceIte, seval, e1]) (by simp (disch := first | omega | (simp only [lnv]; omega)) only [wlk, ↓get_put', ↓reduceIte, seval, e2]) (by simp (disch := first | omega | (simp only [lnv]; omega)) only [wlk, ↓get_put', ↓reduceIte, seval, e3]) (by simp (disch := first | omega | (simp only [lnv]; omega)) only [wlk, ↓get_put', ↓reduceIte, seval, e8]; rfl)
    rw [hqj]; exact hql2 n (by omega) (by omega) (by omega)
  | true =>
    have d2 := cmpW_t hk
    repeat' (first
      | refine St.h ?_
      | simp (disch := first | omega | (simp only [lnv]; omega)) only [wlk, ↓get_put', ↓reduceIte, seval, e0, e1, e2, e3, e8, e9, d1, d2, W3.ix, W3.la, en, ga, gb, Int.toNat_natCast]
      | (with_reducible (first | apply cd_split | apply gd_split)) <;> (intro hc; (try simp only [hcn] at hc); (try simp only [hc]); (try simp only [hcl] at hc); try omega))
    refine st_bufS (c := wriC) (x := L.getD (q2 n) default) rb3.1 rb3.2 wriC_len (by omega) (by omega) (by omega) rfl fun h3 B3 T3 s4 => ?_
    have W4 : Ws h3 v ((rwK L q2 N).set (n + 1) (L.getD (q2 n) default)) := Ss.buf B3 rfl wriC_len (by omega)
    repeat' (first
      | refine St.h ?_
      | simp (disch := first | omega | (simp only [lnv]; omega)) only [wlk, ↓get_put', ↓reduceIte, seval, e0, e1, e2, e3, e8, e9, en, W4.ix]
      | (with_reducible (first | apply cd_split | apply gd_split)) <;> (intro hc; (try simp only [hcn] at hc); (try simp only [hc]); (try simp only [hcl] at hc); try omega))
    refine st_bufS (c := wriC) (x := L.getD (q2 (n + 1)) default) B3 T3 wriC_len (by omega) (by rw [List.length_set]; omega) (by rw [List.length_set]; omega) rfl fun h4 B4 T4 s5 => ?_
    rw [rwK_set] at B4
    repeat' (first
      | refine St.h ?_
      | simp (disch := first | omega | (simp only [lnv]; omega)) only [wlk, ↓get_put', ↓reduceIte, seval, e0, e1, e2, e3, e8, e9]
      | (with_reducible (first | apply cd_split | apply gd_split)) <;> (intro hc; (try simp only [hcn] at hc); (try simp only [hc]); (try simp only [hcl] at hc); try omega))
    refine lp_next hI2 n (by omega) ⟨n, swpK q2 (n + 1) n, rfl, by omega, by omega, by simp (disch := first | omega | (simp only [lnv]; omega)) only [wlk, ↓get_put', ↓reduceIte, seval, e0], by simp (disch := first | omega | (simp only [lnv]; omega)) only [wlk, ↓get_put', ↓reduceIte, seval, e1], by simp (disch := first | omega | (simp only [lnv]; omega)) only [wlk, ↓get_put', ↓reduceIte, seval, e2], by simp (disch := first | omega | (simp only [lnv]; omega)) only [wlk, ↓get_put', ↓reduceIte, seval, e3], by simp (disch := first | omega | (simp only [lnv]; omega)) only [wlk, ↓get_put', ↓reduceIte, seval, e8], by simp (disch := first | omega | (simp only [lnv]; omega)) only [wlk, ↓get_put', ↓reduceIte, seval, e9]; congr 1; omega, midK_swp hM (by omega) hj2 (ltK_kl hk), hper2.trans (swp_per (by omega) (by omega)), by rw [swp_1]; exact hqj, fun k k1 k2 k3 => ?_, ⟨B4, T4⟩, st3.trans (s4.trans s5)⟩
    by_cases e : k = n + 1
    · rw [e, swp_2]; exact hql2 n (by omega) (by omega) (by omega)
    · rw [swp_o k3 e]; exact hql2 k k1 k2 e
end
end Go.Proofs.Ythncpgkpkdolfaa

set_option maxRecDepth 100000
set_option maxHeartbeats 8000000
set_option linter.all false
namespace Go.Proofs.Ythncpgkpkdolfaa
open Go Go.Ev
section
variable {L : List Wri} {N : Nat}
def SmOk (L : List Wri) (N : Nat) (K : Nat) : Prop := ∀ {h : H} {v : V} {p : Nat → Nat} {a m b : Nat}, b - a < K → Rw h v (rwK L p N) → a < m → m < b → b ≤ N → Srt L p a m → Srt L p m b → Stb L p a m b → B.val h.floor ≤ B.val h.next →
  FnOk Try.prog 58 [v, .i .i64 (a : Int), .i .i64 (m : Int), .i .i64 (b : Int), .f 40 []] h fun y h' => ∃ q, Per p q a b ∧ Srt L q a b ∧ Rw h' v (rwK L q N) ∧ Stay (isOf v) h h'
theorem sm_up {h : H} {v : V} {p : Nat → Nat} {a b : Nat} (hN : N ≤ 1000) (rb : Rw h v (rwK L p N)) (h1 : a + 1 < b) (h2 : b ≤ N) (Bs : Srt L p (a + 1) b) (S : Stb L p a (a + 1) b) (hf : B.val h.floor ≤ B.val h.next) :
    FnOk Try.prog 58 [v, .i .i64 (a : Int), .i .i64 ((a + 1 : Nat) : Int), .i .i64 (b : Int), .f 40 []] h fun y h' => ∃ q, Per p q a b ∧ Srt L q a b ∧ Rw h' v (rwK L q N) ∧ Stay (isOf v) h h' := by
  have d0 : (((a + 1 : Nat) : Int) - (a : Int) = 1) = True := eq_true (by omega)
  have ln : ∀ q : Nat → Nat, (rwK L q N).length = N := fun q => rwK_len
  refine fn_go c58 (by intro hb; cases hb) (by simp) (by simp) fun Q hQ => ?_
  simp only [slotsF, Nat.reduceAdd]
  repeat' (first
    | refine St.h ?_
    | simp (disch := first | omega | (simp only [lnv]; omega)) only [wlk, ↓get_put', ↓reduceIte, seval, d0]
    | (with_reducible (first | apply cd_split | apply gd_split)) <;> (intro hc; (try simp only [hcn] at hc); (try simp only [hc]); (try simp only [hcl] at hc); try omega))
  refine Ok.lp (fun k t g => ∃ i j : Nat, k = j - i ∧ a + 1 ≤ i ∧ i ≤ j ∧ j ≤ b ∧ (i = a + 1 ∨ klK L (p (i - 1)) (p a) = true) ∧ (j = b ∨ klK L (p j) (p a) = false) ∧ get 0 t = v ∧ get 1 t = .i .i64 (a : Int) ∧ get 4 t = .f 40 [] ∧ get 10 t = .i .i64 (i : Int) ∧ get 11 t = .i .i64 (j : Int) ∧ Rw g v (rwK L p N) ∧ Stay (isOf v) h g) (b - (a + 1)) ?_ ?_
  · simp (disch := first | omega | (simp only [lnv]; omega)) only [wlk, ↓get_put', ↓reduceIte, seval]
    refine ⟨a + 1, b, by omega, by omega, by omega, by omega, .inl rfl, .inl rfl, ?_⟩
    refine ⟨?_, ?_, ?_, ?_, ?_, rb, ⟨rfl, Nat.le_refl _, fun _ _ _ => rfl⟩⟩
    all_goals first | trivial | rfl
  rintro I hI k t g ⟨i, j, rfl, hi, hij, hj, x2, x3, f0, f1, f4, f10, f11, rb, st⟩
  have hfg := st.fl hf
  have W1 := rb.ws
  have ga : (rwK L p N).getD a default = L.getD (p a) default := rwK_getD (by omega)
  by_cases hlt : i < j
  case pos =>
    have hm : ((i : Int) + (j : Int)).toNat / 2 = (i + j) / 2 := by omega
    have hm2 : ((i : Int) + (j : Int)) / 2 = (((i + j) / 2 : Nat) : Int) := by omega
    have gb : (rwK L p N).getD ((i + j) / 2) default = L.getD (p ((i + j) / 2)) default := rwK_getD (by omega)
    have d1 : ((i : Int) < (j : Int)) = True := eq_true (by omega)
    have l1 := ln p
    repeat' (first
      | refine St.h ?_
      | simp (disch := first | omega | (simp only [lnv]; omega)) only [wlk, ↓get_put', ↓reduceIte, seval, f0, f1, f4, f10, f11, d1, hm, hm2, W1.ix, W1.la, ga, gb, Int.toNat_natCast]
      | (with_reducible (first | apply cd_split | apply gd_split)) <;> (intro hc; (try simp only [hcn] at hc); (try simp only [hc]); (try simp only [hcl] at hc); try omega))
    refine CL.stay (byKey12_ok (a := L.getD (p ((i + j) / 2)) default) (b := L.getD (p a) default) hfg) fun g3 s3 => ?_
    have rb3 := rb.grow s3
    have st3 := st.trans (s3.mono fun _ _ hq => hq.elim)
    cases hk : klK L (p ((i + j) / 2)) (p a) with
    | true =>
      have d2 := cmpW_t hk
      repeat' (first
        | refine St.h ?_
        | simp (disch := first | omega | (simp only [lnv]; omega)) only [wlk, ↓get_put', ↓reduceIte, seval, f0, f1, f4, f10, f11, d2]
        | (with_reducible (first | apply cd_split | apply gd_split)) <;> (intro hc; (try simp only [hcn] at hc); (try simp only [hc]); (try simp only [hcl] at hc); try omega))
      refine lp_next hI (j - ((i + j) / 2 + 1)) (by omega) ⟨(i + j) / 2 + 1, j, rfl, by omega, by omega, by omega, .inr (by rw [Nat.add_sub_cancel]; exact hk), x3, by simp (disch := first | omega | (simp only [lnv]; omega)) only [wlk, ↓get_put', ↓reduceIte, seval, f0], by simp (disch := first | omega | (simp only [lnv]; omega)) only [wlk, ↓get_put', ↓reduceIte, seval, f1], by simp (disch := first | omega | (simp only [lnv]; omega)) only [wlk, ↓get_put', ↓reduceIte, seval, f4], by simp (disch := first | omega | (simp only [lnv]; omega)) only [wlk, ↓get_put', ↓reduceIte, seval]; rfl, by simp (disch := first | omega | (simp only [lnv]; omega)) only [wlk, ↓get_put', ↓reduceIte, seval, f11], rb3, st3⟩
    | false =>
      have d2 := cmpW_f hk
      repeat' (first
        | refine St.h ?_
        | simp (disch := first | omega | (simp only [lnv]; omega)) only [wlk, ↓get_put', ↓reduceIte, seval, f0, f1, f4, f10, f11, d2]
        | (with_reducible (first | apply cd_split | apply gd_split)) <;> (intro hc; (try simp only [hcn] at hc); (try simp only [hc]); (try simp only [hcl] at hc); try omega))
      refine lp_next hI ((i + j) / 2 - i) (by omega) ⟨i, (i + j) / 2, rfl, by omega, by omega, by omega, x2, .inr hk, by simp (disch := first | omega | (simp only [lnv]; omega)) only [wlk, ↓get_put', ↓reduceIte, seval, f0], by simp (disch := first | omega | (simp only [lnv]; omega)) only [wlk, ↓get_put', ↓reduceIte, seval, f1], by simp (disch := first | omega | (simp only [lnv]; omega)) only [wlk, ↓get_put', ↓reduceIte, seval, f4], by simp (disch := first | omega | (simp only [lnv]; omega)) only [wlk, ↓get_put', ↓reduceIte, seval, f10], by simp (disch := first | omega | (simp only [lnv]; omega)) only [wlk, ↓get_put', ↓reduceIte, seval], rb3, st3⟩
  obtain rfl : i = j := by omega
  have y2 : i = a + 1 ∨ ltK L (p (i - 1)) (p a) := x2.imp id fun e => ltK_kl e
  have y3 : i = b ∨ ltK L (p a) (p i) := by
    by_cases e : i = b
    · exact .inl e
    · exact .inr (ltK_no (x3.resolve_left e) fun e2 => S a i (Nat.le_refl _) (by omega) hi (by omega) e2)
  have d1 : ((i : Int) < (i : Int)) = False := eq_false (by omega)
  have sq := rot_one_up hi hj Bs y2 y3
  repeat' (first
    | refine St.h ?_
    | simp (disch := first | omega | (simp only [lnv]; omega)) only [wlk, ↓get_put', ↓reduceIte, seval, f0, f1, f4, f10, f11, d1]
    | (with_reducible (first | apply cd_split | apply gd_split)) <;> (intro hc; (try simp only [hcn] at hc); (try simp only [hc]); (try simp only [hcl] at hc); try omega))
  refine Ok.lp (fun k t g => ∃ z : Nat, k = i - z ∧ a + z + 1 ≤ i ∧ get 0 t = v ∧ get 10 t = .i .i64 (i : Int) ∧ get 13 t = .i .i64 ((a + z : Nat) : Int) ∧ Rw g v (rwK L (rotK p a 1 z) N) ∧ Stay (isOf v) h g) i ?_ ?_
  · simp (disch := first | omega | (simp only [lnv]; omega)) only [wlk, ↓get_put', ↓reduceIte, seval, f0, f1, f4, f10]
    refine ⟨0, by omega, by omega, ?_, ?_, ?_, by rw [rot_n0]; exact rb, st⟩
    all_goals first | trivial | rfl
  rintro I2 hI2 k2 t2 g2 ⟨z, rfl, hz, e0, e10, e13, rb2, st2⟩
  have hfg2 := st2.fl hf
  have W2 := rb2.ws
  by_cases hzi : a + z + 1 < i
  case neg =>
    have d1 : (((a + z : Nat) : Int) < (i : Int) - 1) = False := eq_false (by omega)
    repeat' (first
      | refine St.h ?_
      | simp (disch := first | omega | (simp only [lnv]; omega)) only [wlk, ↓get_put', ↓reduceIte, seval, e0, e10, e13, d1]
      | (with_reducible (first | apply cd_split | apply gd_split)) <;> (intro hc; (try simp only [hcn] at hc); (try simp only [hc]); (try simp only [hcl] at hc); try omega))
    subst hQ
    obtain rfl : z = i - (a + 1) := by omega
    exact ⟨_, rot_per (Nat.le_refl _) (by omega), sq, rb2, st2⟩
  have d1 : (((a + z : Nat) : Int) < (i : Int) - 1) = True := eq_true (by omega)
  have ez : (((a + z : Nat) : Int) + 1).toNat = a + z + 1 := by omega
  have gc : (rwK L (rotK p a 1 z) N).getD (a + z) default = L.getD (rotK p a 1 z (a + z)) default := rwK_getD (by omega)
  have gd : (rwK L (rotK p a 1 z) N).getD (a + z + 1) default = L.getD (rotK p a 1 z (a + z + 1)) default := rwK_getD (by omega)
  have l2 := ln (rotK p a 1 z)
  repeat' (first
    | refine St.h ?_
    | simp (disch := first | omega | (simp only [lnv]; omega)) only [wlk, ↓get_put', ↓reduceIte, seval, e0, e10, e13, d1, W2.ix, W2.la, ez, gc, gd, Int.toNat_natCast]
    | (with_reducible (first | apply cd_split | apply gd_split)) <;> (intro hc; (try simp only [hcn] at hc); (try simp only [hc]); (try simp only [hcl] at hc); try omega))
  refine st_bufS (c := wriC) (x := L.getD (rotK p a 1 z (a + z + 1)) default) rb2.1 rb2.2 wriC_len (by omega) (by omega) (by omega) rfl fun h3 B3 T3 s4 => ?_
  have W4 : Ws h3 v ((rwK L (rotK p a 1 z) N).set (a + z) (L.getD (rotK p a 1 z (a + z + 1)) default)) := Ss.buf B3 rfl wriC_len (by omega)
  repeat' (first
    | refine St.h ?_
    | simp (disch := first | omega | (simp only [lnv]; omega)) only [wlk, ↓get_put', ↓reduceIte, seval, e0, e10, e13, ez, W4.ix]
    | (with_reducible (first | apply cd_split | apply gd_split)) <;> (intro hc; (try simp only [hcn] at hc); (try simp only [hc]); (try simp only [hcl] at hc); try omega))
  refine st_bufS (c := wriC) (x := L.getD (rotK p a 1 z (a + z)) default) B3 T3 wriC_len (by omega) (by rw [List.length_set]; omega) (by rw [List.length_set]; omega) rfl fun h4 B4 T4 s5 => ?_
  rw [rwK_set, rot_up] at B4
  repeat' (first
    | refine St.h ?_
    | simp (disch := first | omega | (simp only [lnv]; omega)) only [wlk, ↓get_put', ↓reduceIte, seval, e0, e10, e13]
    | (with_reducible (first | apply cd_split | apply gd_split)) <;> (intro hc; (try simp only [hcn] at hc); (try simp only [hc]); (try simp only [hcl] at hc); try omega))
  refine lp_next hI2 (i - (z + 1)) (by omega) ⟨z + 1, rfl, by omega, by simp (disch := first | omega | (simp only [lnv]; omega)) only [wlk, ↓get_put', ↓reduceIte, seval, e0], by simp (disch := first | omega | (simp only [lnv]; omega)) only [wlk, ↓get_put', ↓reduceIte, seval, e10], by simp (disch := first | omega | (simp only [lnv]; omega)) only [wlk, ↓get_put', ↓reduceIte, seval, e13]; rfl, ⟨B4, T4⟩, st2.trans (s4.trans s5)⟩
theorem sm_dn {h : H} {v : V} {p : Nat → Nat} {a m : Nat} (hN : N ≤ 1000) (rb : Rw h v (rwK L p N)) (h1 : a + 1 < m) (h2 : m + 1 ≤ N) (A : Srt L p a m) (S : Stb L p a m (m + 1)) (hf : B.val h.floor ≤ B.val h.next) :
    FnOk Try.prog 58 [v, .i .i64 (a : Int), .i .i64 (m : Int), .i .i64 ((m + 1 : Nat) : Int), .f 40 []] h fun y h' => ∃ q, Per p q a (m + 1) ∧ Srt L q a (m + 1) ∧ Rw h' v (rwK L q N) ∧ Stay (isOf v) h h' := by
  have d00 : ((m : Int) - (a : Int) = 1) = False := eq_false (by omega)
  have d0 : (((m + 1 : Nat) : Int) - (m : Int) = 1) = True := eq_true (by omega)
  have ln : ∀ q : Nat → Nat, (rwK L q N).length = N := fun q => rwK_len
  refine fn_go c58 (by intro hb; cases hb) (by simp) (by simp) fun Q hQ => ?_
  simp only [slotsF, Nat.reduceAdd]
  repeat' (first
    | refine St.h ?_
    | simp (disch := first | omega | (simp only [lnv]; omega)) only [wlk, ↓get_put', ↓reduceIte, seval, d00, d0]
    | (with_reducible (first | apply cd_split | apply gd_split)) <;> (intro hc; (try simp only [hcn] at hc); (try simp only [hc]); (try simp only [hcl] at hc); try omega))
  refine Ok.lp (fun k t g => ∃ i j : Nat, k = j - i ∧ a ≤ i ∧ i ≤ j ∧ j ≤ m ∧ (i = a ∨ klK L (p m) (p (i - 1)) = false) ∧ (j = m ∨ klK L (p m) (p j) = true) ∧ get 0 t = v ∧ get 2 t = .i .i64 (m : Int) ∧ get 4 t = .f 40 [] ∧ get 14 t = .i .i64 (i : Int) ∧ get 15 t = .i .i64 (j : Int) ∧ Rw g v (rwK L p N) ∧ Stay (isOf v) h g) (m - a) ?_ ?_
  · simp (disch := first | omega | (simp only [lnv]; omega)) only [wlk, ↓get_put', ↓reduceIte, seval]
    refine ⟨a, m, by omega, by omega, by omega, by omega, .inl rfl, .inl rfl, ?_⟩
    refine ⟨?_, ?_, ?_, ?_, ?_, rb, ⟨rfl, Nat.le_refl _, fun _ _ _ => rfl⟩⟩
    all_goals first | trivial | rfl
  rintro I hI k t g ⟨i, j, rfl, hi, hij, hj, x2, x3, f0, f2, f4, f14, f15, rb, st⟩
  have hfg := st.fl hf
  have W1 := rb.ws
  have ga : (rwK L p N).getD m default = L.getD (p m) default := rwK_getD (by omega)
  by_cases hlt : i < j
  case pos =>
    have hm : ((i : Int) + (j : Int)).toNat / 2 = (i + j) / 2 := by omega
    have hm2 : ((i : Int) + (j : Int)) / 2 = (((i + j) / 2 : Nat) : Int) := by omega
    have gb : (rwK L p N).getD ((i + j) / 2) default = L.getD (p ((i + j) / 2)) default := rwK_getD (by omega)
    have d1 : ((i : Int) < (j : Int)) = True := eq_true (by omega)
    have l1 := ln p
    repeat' (first
      | refine St.h ?_
      | simp (disch := first | omega | (simp only [lnv]; omega)) only [wlk, ↓get_put', ↓reduceIte, seval, f0, f2, f4, f14, f15, d1, hm, hm2, W1.ix, W1.la, ga, gb, Int.toNat_natCast]
      | (with_reducible (first | apply cd_split | apply gd_split)) <;> (intro hc; (try simp only [hcn] at hc); (try simp only [hc]); (try simp only [hcl] at hc); try omega))
    refine CL.stay (byKey12_ok (a := L.getD (p m) default) (b := L.getD (p ((i + j) / 2)) default) hfg) fun g3 s3 => ?_
    have rb3 := rb.grow s3
    have st3 := st.trans (s3.mono fun _ _ hq => hq.elim)
    cases hk : klK L (p m) (p ((i + j) / 2)) with
    | false =>
      have d2 := cmpW_f hk
      repeat' (first
        | refine St.h ?_
        | simp (disch := first | omega | (simp only [lnv]; omega)) only [wlk, ↓get_put', ↓reduceIte, seval, f0, f2, f4, f14, f15, d2]
        | (with_reducible (first | apply cd_split | apply gd_split)) <;> (intro hc; (try simp only [hcn] at hc); (try simp only [hc]); (try simp only [hcl] at hc); try omega))
      refine lp_next hI (j - ((i + j) / 2 + 1)) (by omega) ⟨(i + j) / 2 + 1, j, rfl, by omega, by omega, by omega, .inr (by rw [Nat.add_sub_cancel]; exact hk), x3, by simp (disch := first | omega | (simp only [lnv]; omega)) only [wlk, ↓get_put', ↓reduceIte, seval, f0], by simp (disch := first | omega | (simp only [lnv]; omega)) only [wlk, ↓get_put', ↓reduceIte, seval, f2], by simp (disch := first | omega | (simp only [lnv]; omega)) only [wlk, ↓get_put', ↓reduceIte, seval, f4], by simp (disch := first | omega | (simp only [lnv]; omega)) only [wlk, ↓get_put', ↓reduceIte, seval]; rfl, by simp (disch := first | omega | (simp only [lnv]; omega)) only [wlk, ↓get_put', ↓reduceIte, seval, f15], rb3, st3⟩
    | true =>
      have d2 := cmpW_t hk
      repeat' (first
        | refine St.h ?_
        | simp (disch := first | omega | (simp only [lnv]; omega)) only [wlk, ↓get_put', ↓reduceIte, seval, f0, f2, f4, f14, f15, d2]
        | (with_reducible (first | apply cd_split | apply gd_split)) <;> (intro hc; (try simp only [hcn] at hc); (try simp only [hc]); (try simp only [hcl] at hc); try omega))
      refine lp_next hI ((i + j) / 2 - i) (by omega) ⟨i, (i + j) / 2, rfl, by omega, by omega, by omega, x2, .inr hk, by simp (disch := first | omega | (simp only [lnv]; omega)) only [wlk, ↓get_put', ↓reduceIte, seval, f0], by simp (disch := first | omega | (simp only [lnv]; omega)) only [wlk, ↓get_put', ↓reduceIte, seval, f2], by simp (disch := first | omega | (simp only [lnv]; omega)) only [wlk, ↓get_put', ↓reduceIte, seval, f4], by simp (disch := first | omega | (simp only [lnv]; omega)) only [wlk, ↓get_put', ↓reduceIte, seval, f14], by simp (disch := first | omega | (simp only [lnv]; omega)) only [wlk, ↓get_put', ↓reduceIte, seval], rb3, st3⟩
  obtain rfl : i = j := by omega
  have y2 : i = a ∨ ltK L (p (i - 1)) (p m) := by
    by_cases e : i = a
    · exact .inl e
    · exact .inr (ltK_no (x2.resolve_left e) fun e2 => S (i - 1) m (by omega) (by omega) (Nat.le_refl _) (by omega) e2)
  have y3 : i = m ∨ ltK L (p m) (p i) := x3.imp id fun e => ltK_kl e
  have d1 : ((i : Int) < (i : Int)) = False := eq_false (by omega)
  have sq := rot_one_dn hi hj A y2 y3
  repeat' (first
    | refine St.h ?_
    | simp (disch := first | omega | (simp only [lnv]; omega)) only [wlk, ↓get_put', ↓reduceIte, seval, f0, f2, f4, f14, f15, d1]
    | (with_reducible (first | apply cd_split | apply gd_split)) <;> (intro hc; (try simp only [hcn] at hc); (try simp only [hc]); (try simp only [hcl] at hc); try omega))
  refine Ok.lp (fun k t g => ∃ z : Nat, k = z ∧ i ≤ z ∧ z ≤ m ∧ get 0 t = v ∧ get 14 t = .i .i64 (i : Int) ∧ get 17 t = .i .i64 (z : Int) ∧ Rw g v (rwK L (rotK p z (m - z) 1) N) ∧ Stay (isOf v) h g) m ?_ ?_
  · simp (disch := first | omega | (simp only [lnv]; omega)) only [wlk, ↓get_put', ↓reduceIte, seval, f0, f2, f4, f14]
    refine ⟨m, by omega, by omega, by omega, ?_, ?_, ?_, by rw [Nat.sub_self, rot_0n]; exact rb, st⟩
    all_goals first | trivial | rfl
  rintro I2 hI2 k2 t2 g2 ⟨z, rfl, hz, hzm, e0, e14, e17, rb2, st2⟩
  have hfg2 := st2.fl hf
  have W2 := rb2.ws
  by_cases hzi : i < k2
  case neg =>
    have d1 : ((i : Int) < (k2 : Int)) = False := eq_false (by omega)
    repeat' (first
      | refine St.h ?_
      | simp (disch := first | omega | (simp only [lnv]; omega)) only [wlk, ↓get_put', ↓reduceIte, seval, e0, e14, e17, d1]
      | (with_reducible (first | apply cd_split | apply gd_split)) <;> (intro hc; (try simp only [hcn] at hc); (try simp only [hc]); (try simp only [hcl] at hc); try omega))
    subst hQ
    obtain rfl : k2 = i := by omega
    exact ⟨_, rot_per hi (by omega), sq, rb2, st2⟩
  have d1 : ((i : Int) < (k2 : Int)) = True := eq_true (by omega)
  obtain ⟨n, rfl⟩ : ∃ n, k2 = n + 1 := ⟨k2 - 1, by omega⟩
  have ez : (((n + 1 : Nat) : Int) - 1).toNat = n := by omega
  have ez' : ((n + 1 : Nat) : Int) - 1 = (n : Int) := by omega
  have gc : (rwK L (rotK p (n + 1) (m - (n + 1)) 1) N).getD n default = L.getD (rotK p (n + 1) (m - (n + 1)) 1 n) default := rwK_getD (by omega)
  have gd : (rwK L (rotK p (n + 1) (m - (n + 1)) 1) N).getD (n + 1) default = L.getD (rotK p (n + 1) (m - (n + 1)) 1 (n + 1)) default := rwK_getD (by omega)
  have l2 := ln (rotK p (n + 1) (m - (n + 1)) 1)
  repeat' (first
    | refine St.h ?_
    | simp (disch := first | omega | (simp only [lnv]; omega)) only [wlk, ↓get_put', ↓reduceIte, seval, e0, e14, e17, d1, W2.ix, W2.la, ez, gc, gd, Int.toNat_natCast]
    | (with_reducible (first | apply cd_split | apply gd_split)) <;> (intro hc; (try simp only [hcn] at hc); (try simp only [hc]); (try simp only [hcl] at hc); try omega))
  refine st_bufS (c := wriC) (x := L.getD (rotK p (n + 1) (m - (n + 1)) 1 n) default) rb2.1 rb2.2 wriC_len (by omega) (by omega) (by omega) rfl fun h3 B3 T3 s4 => ?_
  have W4 : Ws h3 v ((rwK L (rotK p (n + 1) (m - (n + 1)) 1) N).set (n + 1) (L.getD (rotK p (n + 1) (m - (n + 1)) 1 n) default)) := Ss.buf B3 rfl wriC_len (by omega)
  repeat' (first
    | refine St.h ?_
    | simp (disch := first | omega | (simp only [lnv]; omega)) only [wlk, ↓get_put', ↓reduceIte, seval, e0, e14, e17, ez, W4.ix]
    | (with_reducible (first | apply cd_split | apply gd_split)) <;> (intro hc; (try simp only [hcn] at hc); (try simp only [hc]); (try simp only [hcl] at hc); try omega))
  refine st_bufS (c := wriC) (x := L.getD (rotK p (n + 1) (m - (n + 1)) 1 (n + 1)) default) B3 T3 wriC_len (by omega) (by rw [List.length_set]; omega) (by rw [List.length_set]; omega) rfl fun h4 B4 T4 s5 => ?_
  rw [rwK_set, rot_dn, show m - (n + 1) + 1 = m - n by omega] at B4
  repeat' (first
    | refine St.h ?_
    | simp (disch := first | omega | (simp only [lnv]; omega)) only [wlk, ↓get_put', ↓reduceIte, seval, e0, e14, e17]
    | (with_reducible (first | apply cd_split | apply gd_split)) <;> (intro hc; (try simp only [hcn] at hc); (try simp only [hc]); (try simp only [hcl] at hc); try omega))
  refine lp_next hI2 n (by omega) ⟨n, rfl, by omega, by omega, by simp (disch := first | omega | (simp only [lnv]; omega)) only [wlk, ↓get_put', ↓reduceIte, seval, e0], by simp (disch := first | omega | (simp only [lnv]; omega)) only [wlk, ↓get_put', ↓reduceIte, seval, e14], by simp (disch := first | omega | (simp only [lnv]; omega)) only [wlk, ↓get_put', ↓reduceIte, seval, ez', e17], ⟨B4, T4⟩, st2.trans (s4.trans s5)⟩
theorem sm_step {K : Nat} (hN : N ≤ 1000) (ih : SmOk L N K) {h : H} {v : V} {p : Nat → Nat} {a m b : Nat} (hK : b - a < K + 1) (rb : Rw h v (rwK L p N)) (h1 : a < m) (h2 : m < b) (h3 : b ≤ N) (A : Srt L p a m) (Bs : Srt L p m b) (S : Stb L p a m b) (hf : B.val h.floor ≤ B.val h.next) :
    FnOk Try.prog 58 [v, .i .i64 (a : Int), .i .i64 (m : Int), .i .i64 (b : Int), .f 40 []] h fun y h' => ∃ q, Per p q a b ∧ Srt L q a b ∧ Rw h' v (rwK L q N) ∧ Stay (isOf v) h h' := by
  by_cases m1 : m = a + 1
  · subst m1
    exact sm_up hN rb h2 h3 Bs S hf
  by_cases m2 : b = m + 1
  · subst m2
    exact sm_dn hN rb (by omega) h3 A S hf
  have d0 : ((m : Int) - (a : Int) = 1) = False := eq_false (by omega)
  have d00 : ((b : Int) - (m : Int) = 1) = False := eq_false (by omega)
  have ln : ∀ q : Nat → Nat, (rwK L q N).length = N := fun q => rwK_len
  obtain ⟨mid, hmid⟩ : ∃ mid, mid = (a + b) / 2 := ⟨_, rfl⟩
  have hm : ((a : Int) + (b : Int)).toNat / 2 = mid := by omega
  have hm2 : ((a : Int) + (b : Int)) / 2 = (mid : Int) := by omega
  obtain ⟨z0, r0, hz0, hr0⟩ : ∃ z0 r0 : Nat, (m > mid → z0 = mid + m - b ∧ r0 = mid) ∧ (m ≤ mid → z0 = a ∧ r0 = m) := by
    by_cases e : m > mid
    · exact ⟨mid + m - b, mid, fun _ => ⟨rfl, rfl⟩, fun h => by omega⟩
    · exact ⟨a, m, fun h => absurd h e, fun _ => ⟨rfl, rfl⟩⟩
  have hzr : a ≤ z0 ∧ z0 ≤ r0 ∧ r0 ≤ m ∧ r0 ≤ mid ∧ mid + m ≤ z0 + b := by
    by_cases e : m > mid
    · obtain ⟨e1, e2⟩ := hz0 e; omega
    · obtain ⟨e1, e2⟩ := hr0 (by omega); omega
  obtain ⟨y1, y2, y3, y4, y5⟩ := hzr
  refine fn_go c58 (by intro hb; cases hb) (by simp) (by simp) fun Q hQ => ?_
  simp only [slotsF, Nat.reduceAdd]
  -- what follows the choice of both ends
  have rest : ∀ t : F, get 0 t = v → get 1 t = .i .i64 (a : Int) → get 2 t = .i .i64 (m : Int) → get 3 t = .i .i64 (b : Int) → get 4 t = .f 40 [] → get 18 t = .i .i64 (mid : Int) → get 19 t = .i .i64 ((mid + m : Nat) : Int) → get 20 t = .i .i64 (z0 : Int) → get 21 t = .i .i64 (r0 : Int) → Ok Try.prog 220 s58_79 t h (FnK [] Q) := fun t f0 f1 f2 f3 f4 f18 f19 f20 f21 => by
    have en : ((mid + m : Nat) : Int) - 1 = ((mid + m - 1 : Nat) : Int) := by omega
    repeat' (first
      | refine St.h ?_
      | simp (disch := first | omega | (simp only [lnv]; omega)) only [wlk, ↓get_put', ↓reduceIte, seval, f0, f1, f2, f3, f4, f18, f19, f20, f21]
      | (with_reducible (first | apply cd_split | apply gd_split)) <;> (intro hc; (try simp only [hcn] at hc); (try simp only [hc]); (try simp only [hcl] at hc); try omega))
    refine Ok.lp (fun k t g => ∃ z r : Nat, k = r - z ∧ z0 ≤ z ∧ z ≤ r ∧ r ≤ r0 ∧ (z = z0 ∨ klK L (p (mid + m - z)) (p (z - 1)) = false) ∧ (r = r0 ∨ klK L (p (mid + m - 1 - r)) (p r) = true) ∧ get 0 t = v ∧ get 1 t = .i .i64 (a : Int) ∧ get 2 t = .i .i64 (m : Int) ∧ get 3 t = .i .i64 (b : Int) ∧ get 4 t = .f 40 [] ∧ get 18 t = .i .i64 (mid : Int) ∧ get 19 t = .i .i64 ((mid + m : Nat) : Int) ∧ get 20 t = .i .i64 (z : Int) ∧ get 21 t = .i .i64 (r : Int) ∧ get 22 t = .i .i64 ((mid + m - 1 : Nat) : Int) ∧ Rw g v (rwK L p N) ∧ Stay (isOf v) h g) (r0 - z0) ?_ ?_
    · simp (disch := first | omega | (simp only [lnv]; omega)) only [wlk, ↓get_put', ↓reduceIte, seval, f0, f1, f2, f3, f4, f18, f19, f20, f21, en]
      refine ⟨z0, r0, by omega, by omega, by omega, by omega, .inl rfl, .inl rfl, ?_⟩
      refine ⟨?_, ?_, ?_, ?_, ?_, ?_, ?_, ?_, ?_, ?_, rb, ⟨rfl, Nat.le_refl _, fun _ _ _ => rfl⟩⟩
      all_goals first | trivial | rfl
    rintro I hI k t g ⟨z, r, rfl, hz, hzr, hr, x1, x2, f0, f1, f2, f3, f4, f18, f19, f20, f21, f22, rb, st⟩
    have hfg := st.fl hf
    have W1 := rb.ws
    by_cases hlt : z < r
    case pos =>
      have hc : ((z : Int) + (r : Int)).toNat / 2 = (z + r) / 2 := by omega
      have hc2 : ((z : Int) + (r : Int)) / 2 = (((z + r) / 2 : Nat) : Int) := by omega
      have hc3 : (((mid + m - 1 : Nat) : Int) - (((z + r) / 2 : Nat) : Int)).toNat = mid + m - 1 - (z + r) / 2 := by omega
      have ga : (rwK L p N).getD (mid + m - 1 - (z + r) / 2) default = L.getD (p (mid + m - 1 - (z + r) / 2)) default := rwK_getD (by omega)
      have gb : (rwK L p N).getD ((z + r) / 2) default = L.getD (p ((z + r) / 2)) default := rwK_getD (by omega)
      have d1 : ((z : Int) < (r : Int)) = True := eq_true (by omega)
      have l1 := ln p
      repeat' (first
        | refine St.h ?_
        | simp (disch := first | omega | (simp only [lnv]; omega)) only [wlk, ↓get_put', ↓reduceIte, seval, f0, f1, f2, f3, f4, f18, f19, f20, f21, f22, d1, hc, hc2, hc3, W1.ix, W1.la, ga, gb, Int.toNat_natCast]
        | (with_reducible (first | apply cd_split | apply gd_split)) <;> (intro hc; (try simp only [hcn] at hc); (try simp only [hc]); (try simp only [hcl] at hc); try omega))
      refine CL.stay (byKey12_ok (a := L.getD (p (mid + m - 1 - (z + r) / 2)) default) (b := L.getD (p ((z + r) / 2)) default) hfg) fun g3 s3 => ?_
      have rb3 := rb.grow s3
      have st3 := st.trans (s3.mono fun _ _ hq => hq.elim)
      cases hk : klK L (p (mid + m - 1 - (z + r) / 2)) (p ((z + r) / 2)) with
      | false =>
        have d2 := cmpW_f hk
        repeat' (first
          | refine St.h ?_
          | simp (disch := first | omega | (simp only [lnv]; omega)) only [wlk, ↓get_put', ↓reduceIte, seval, f0, f1, f2, f3, f4, f18, f19, f20, f21, f22, d2]
          | (with_reducible (first | apply cd_split | apply gd_split)) <;> (intro hc; (try simp only [hcn] at hc); (try simp only [hc]); (try simp only [hcl] at hc); try omega))
        refine lp_next hI (r - ((z + r) / 2 + 1)) (by omega) ⟨(z + r) / 2 + 1, r, rfl, by omega, by omega, by omega, .inr (by rw [Nat.add_sub_cancel, show mid + m - ((z + r) / 2 + 1) = mid + m - 1 - (z + r) / 2 by omega]; exact hk), x2, by simp (disch := first | omega | (simp only [lnv]; omega)) only [wlk, ↓get_put', ↓reduceIte, seval, f0], by simp (disch := first | omega | (simp only [lnv]; omega)) only [wlk, ↓get_put', ↓reduceIte, seval, f1], by simp (disch := first | omega | (simp only [lnv]; omega)) only [wlk, ↓get_put', ↓reduceIte, seval, f2], by simp (disch := first | omega | (simp only [lnv]; omega)) only [wlk, ↓get_put', ↓reduceIte, seval, f3], by simp (disch := first | omega | (simp only [lnv]; omega)) only [wlk, ↓get_put', ↓reduceIte, seval, f4], by simp (disch := first | omega | (simp only [lnv]; omega)) only [wlk, ↓get_put', ↓reduceIte, seval, f18], by simp (disch := first | omega | (simp only [lnv]; omega)) only [wlk, ↓get_put', ↓reduceIte, seval, f19], by simp (disch := first | omega | (simp only [lnv]; omega)) only [wlk, ↓get_put', ↓reduceIte, seval]; rfl, by simp (disch := first | omega | (simp only [lnv]; omega)) only [wlk, ↓get_put', ↓reduceIte, seval, f21], by simp (disch := first | omega | (simp only [lnv]; omega)) only [wlk, ↓get_put', ↓reduceIte, seval, f22], rb3, st3⟩
      | true =>
        have d2 := cmpW_t hk
        repeat' (first
          | refine St.h ?_
          | simp (disch := first | omega | (simp only [lnv]; omega)) only [wlk, ↓get_put', ↓reduceIte, seval, f0, f1, f2, f3, f4, f18, f19, f20, f21, f22, d2]
          | (with_reducible (first | apply cd_split | apply gd_split)) <;> (intro hc; (try simp only [hcn] at hc); (try simp only [hc]); (try simp only [hcl] at hc); try omega))
        refine lp_next hI ((z + r) / 2 - z) (by omega) ⟨z, (z + r) / 2, rfl, by omega, by omega, by omega, x1, .inr hk, by simp (disch := first | omega | (simp only [lnv]; omega)) only [wlk, ↓get_put', ↓reduceIte, seval, f0], by simp (disch := first | omega | (simp only [lnv]; omega)) only [wlk, ↓get_put', ↓reduceIte, seval, f1], by simp (disch := first | omega | (simp only [lnv]; omega)) only [wlk, ↓get_put', ↓reduceIte, seval, f2], by simp (disch := first | omega | (simp only [lnv]; omega)) only [wlk, ↓get_put', ↓reduceIte, seval, f3], by simp (disch := first | omega | (simp only [lnv]; omega)) only [wlk, ↓get_put', ↓reduceIte, seval, f4], by simp (disch := first | omega | (simp only [lnv]; omega)) only [wlk, ↓get_put', ↓reduceIte, seval, f18], by simp (disch := first | omega | (simp only [lnv]; omega)) only [wlk, ↓get_put', ↓reduceIte, seval, f19], by simp (disch := first | omega | (simp only [lnv]; omega)) only [wlk, ↓get_put', ↓reduceIte, seval, f20], by simp (disch := first | omega | (simp only [lnv]; omega)) only [wlk, ↓get_put', ↓reduceIte, seval], by simp (disch := first | omega | (simp only [lnv]; omega)) only [wlk, ↓get_put', ↓reduceIte, seval, f22], rb3, st3⟩
    obtain rfl : z = r := by omega
    have d1 : ((z : Int) < (z : Int)) = False := eq_false (by omega)
    obtain ⟨e, he⟩ : ∃ e, e = mid + m - z := ⟨_, rfl⟩
    have ee : ((mid + m : Nat) : Int) - (z : Int) = (e : Int) := by omega
    have w1 : z = a ∨ e = b ∨ ltK L (p (z - 1)) (p e) := by
      rcases x1 with h | h
      · by_cases hg : m > mid
        · have := (hz0 hg).1; right; left; omega
        · have := (hr0 (by omega)).1; left; omega
      · by_cases hza : z = a
        · exact .inl hza
        · by_cases heb : e = b
          · exact .inr (.inl heb)
          · rw [← he] at h
            exact .inr (.inr (ltK_no h fun e2 => S (z - 1) e (by omega) (by omega) (by omega) (by omega) e2))
    have w2 : e = m ∨ z = m ∨ ltK L (p (e - 1)) (p z) := by
      rcases x2 with h | h
      · by_cases hg : m > mid
        · have := (hz0 hg).2; left; omega
        · have := (hr0 (by omega)).2; right; left; omega
      · rw [show mid + m - 1 - z = e - 1 by omega] at h
        exact .inr (.inr (ltK_kl h))
    obtain ⟨H1, H2, H3, H4, H5, H6, H7⟩ := rot_half (c := mid) (s := z) (e := e) (by omega) (by omega) (by omega) (by omega) A Bs S (by omega) w1 w2
    have hper := rot_per (p := p) (a := a) (b := b) (s := z) (i := m - z) (j := e - m) (by omega) (by omega)
    generalize hq0 : rotK p z (m - z) (e - m) = q0 at *
    have fin : ∀ t : F, ∀ g1 : H, ∀ q1 : Nat → Nat, get 0 t = v → get 3 t = .i .i64 (b : Int) → get 4 t = .f 40 [] → get 18 t = .i .i64 (mid : Int) → get 24 t = .i .i64 (e : Int) → Per q0 q1 a mid → Srt L q1 a mid → Rw g1 v (rwK L q1 N) → Stay (isOf v) h g1 → Ok Try.prog 220 s58_74 t g1 (FnK [] Q) := fun t g1 q1 f0 f3 f4 f18 f24 P1 S1 R1 st1 => by
      have hf1 := st1.fl hf
      have same : ∀ k, mid ≤ k → k < b → q1 k = q0 k := fun k hk _ => P1.out k (.inr hk)
      by_cases c1 : mid < e ∧ e < b
      · have d1 : ((mid : Int) < (e : Int)) = True := eq_true (by omega)
        have d2 : ((e : Int) < (b : Int)) = True := eq_true (by omega)
        repeat' (first
          | refine St.h ?_
          | simp (disch := first | omega | (simp only [lnv]; omega)) only [wlk, ↓get_put', ↓reduceIte, seval, f0, f3, f4, f18, f24, d1, d2]
          | (with_reducible (first | apply cd_split | apply gd_split)) <;> (intro hc; (try simp only [hcn] at hc); (try simp only [hc]); (try simp only [hcl] at hc); try omega))
        refine CL.mk (ih (p := q1) (a := mid) (m := e) (b := b) (by omega) R1 c1.1 c1.2 h3 (srt_out H4 fun k k1 k2 => same k k1 (by omega)) (srt_out H5 fun k k1 k2 => same k (by omega) k2) (fun i j i1 i2 i3 i4 i5 => by
          rw [same i i1 (by omega), same j (by omega) i4] at *
          exact H6 i j i1 i2 i3 i4 i5) hf1) ?_
        rintro y g2 ⟨q2, P2, S2, R2, s2⟩
        repeat' (first
          | refine St.h ?_
          | simp (disch := first | omega | (simp only [lnv]; omega)) only [wlk, ↓get_put', ↓reduceIte, seval]
          | (with_reducible (first | apply cd_split | apply gd_split)) <;> (intro hc; (try simp only [hcn] at hc); (try simp only [hc]); (try simp only [hcl] at hc); try omega))
        subst hQ
        refine ⟨q2, ?_, srt_glue (srt_out S1 fun k k1 k2 => P2.out k (.inl k2)) S2 (crs_per2 (crs_per H7 P1) P2), R2, st1.trans s2⟩
        exact (hper.trans (P1.wide (Nat.le_refl _) (by omega))).trans (P2.wide (by omega) (Nat.le_refl _))
      · have hs : Srt L q0 mid b := by
          by_cases c2 : mid < e
          · obtain rfl : e = b := by omega
            exact H4
          · obtain rfl : e = mid := by omega
            exact H5
        have done : ∃ q, Per p q a b ∧ Srt L q a b ∧ Rw g1 v (rwK L q N) ∧ Stay (isOf v) h g1 :=
          ⟨q1, hper.trans (P1.wide (Nat.le_refl _) (by omega)), srt_glue S1 (srt_out hs same) (crs_per H7 P1), R1, st1⟩
        by_cases c2 : mid < e
        · have d1 : ((mid : Int) < (e : Int)) = True := eq_true (by omega)
          have d2 : ((e : Int) < (b : Int)) = False := eq_false (by omega)
          repeat' (first
            | refine St.h ?_
            | simp (disch := first | omega | (simp only [lnv]; omega)) only [wlk, ↓get_put', ↓reduceIte, seval, f0, f3, f4, f18, f24, d1, d2]
            | (with_reducible (first | apply cd_split | apply gd_split)) <;> (intro hc; (try simp only [hcn] at hc); (try simp only [hc]); (try simp only [hcl] at hc); try omega))
          subst hQ
          exact done
        · have d1 : ((mid : Int) < (e : Int)) = False := eq_false (by omega)
          repeat' (first
            | refine St.h ?_
            | simp (disch := first | omega | (simp only [lnv]; omega)) only [wlk, ↓get_put', ↓reduceIte, seval, f0, f3, f4, f18, f24, d1]
            | (with_reducible (first | apply cd_split | apply gd_split)) <;> (intro hc; (try simp only [hcn] at hc); (try simp only [hc]); (try simp only [hcl] at hc); try omega))
          subst hQ
          exact done
    have mid' : ∀ t : F, ∀ g1 : H, get 0 t = v → get 1 t = .i .i64 (a : Int) → get 3 t = .i .i64 (b : Int) → get 4 t = .f 40 [] → get 18 t = .i .i64 (mid : Int) → get 20 t = .i .i64 (z : Int) → get 24 t = .i .i64 (e : Int) → Rw g1 v (rwK L q0 N) → Stay (isOf v) h g1 → Ok Try.prog 220 s58_75 t g1 (FnK [] Q) := fun t g1 f0 f1 f3 f4 f18 f20 f24 R1 st1 => by
      have hf1 := st1.fl hf
      by_cases c1 : a < z ∧ z < mid
      · have d1 : ((a : Int) < (z : Int)) = True := eq_true (by omega)
        have d2 : ((z : Int) < (mid : Int)) = True := eq_true (by omega)
        repeat' (first
          | refine fin _ _ _ ?_ ?_ ?_ ?_ ?_ P1 S1 R2 (st1.trans s2)
          | refine St.h ?_
          | simp (disch := first | omega | (simp only [lnv]; omega)) only [wlk, ↓get_put', ↓reduceIte, seval, f0, f1, f3, f4, f18, f20, f24, d1, d2]
          | (with_reducible (first | apply cd_split | apply gd_split)) <;> (intro hc; (try simp only [hcn] at hc); (try simp only [hc]); (try simp only [hcl] at hc); try omega))
        refine CL.mk (ih (p := q0) (a := a) (m := z) (b := mid) (by omega) R1 c1.1 c1.2 (by omega) H1 H2 H3 hf1) ?_
        rintro y g2 ⟨q1, P1, S1, R2, s2⟩
        repeat' (first
          | refine fin _ _ q1 ?_ ?_ ?_ ?_ ?_ P1 S1 R2 (st1.trans s2)
          | refine St.h ?_
          | simp (disch := first | omega | (simp only [lnv]; omega)) only [wlk, ↓get_put', ↓reduceIte, seval, f0, f1, f3, f4, f18, f20, f24]
          | (with_reducible (first | apply cd_split | apply gd_split)) <;> (intro hc; (try simp only [hcn] at hc); (try simp only [hc]); (try simp only [hcl] at hc); try omega))
        all_goals first | (simp (disch := first | omega | (simp only [lnv]; omega)) only [wlk, ↓get_put', ↓reduceIte, seval, f0]; done) | (simp (disch := first | omega | (simp only [lnv]; omega)) only [wlk, ↓get_put', ↓reduceIte, seval, f1]; done) | (simp (disch := first | omega | (simp only [lnv]; omega)) only [wlk, ↓get_put', ↓reduceIte, seval, f3]; done) | (simp (disch := first | omega | (simp only [lnv]; omega)) only [wlk, ↓get_put', ↓reduceIte, seval, f4]; done) | (simp (disch := first | omega | (simp only [lnv]; omega)) only [wlk, ↓get_put', ↓reduceIte, seval, f18]; done) | (simp (disch := first | omega | (simp only [lnv]; omega)) only [wlk, ↓get_put', ↓reduceIte, seval, f20]; done) | (simp (disch := first | omega | (simp only [lnv]; omega)) only [wlk, ↓get_put', ↓reduceIte, seval, f24]; done) | (simp (disch := first | omega | (simp only [lnv]; omega)) only [wlk, ↓get_put', ↓reduceIte, seval]; done)
      · have hs : Srt L q0 a mid := by
          by_cases c2 : a < z
          · obtain rfl : z = mid := by omega
            exact H1
          · obtain rfl : z = a := by omega
            exact H2
        by_cases c2 : a < z
        · have d1 : ((a : Int) < (z : Int)) = True := eq_true (by omega)
          have d2 : ((z : Int) < (mid : Int)) = False := eq_false (by omega)
          repeat' (first
            | refine fin _ _ q0 ?_ ?_ ?_ ?_ ?_ Per.refl hs R1 st1
            | refine St.h ?_
            | simp (disch := first | omega | (simp only [lnv]; omega)) only [wlk, ↓get_put', ↓reduceIte, seval, f0, f1, f3, f4, f18, f20, f24, d1, d2]
            | (with_reducible (first | apply cd_split | apply gd_split)) <;> (intro hc; (try simp only [hcn] at hc); (try simp only [hc]); (try simp only [hcl] at hc); try omega))
          all_goals first | (simp (disch := first | omega | (simp only [lnv]; omega)) only [wlk, ↓get_put', ↓reduceIte, seval, f0]; done) | (simp (disch := first | omega | (simp only [lnv]; omega)) only [wlk, ↓get_put', ↓reduceIte, seval, f1]; done) | (simp (disch := first | omega | (simp only [lnv]; omega)) only [wlk, ↓get_put', ↓reduceIte, seval, f3]; done) | (simp (disch := first | omega | (simp only [lnv]; omega)) only [wlk, ↓get_put', ↓reduceIte, seval, f4]; done) | (simp (disch := first | omega | (simp only [lnv]; omega)) only [wlk, ↓get_put', ↓reduceIte, seval, f18]; done) | (simp (disch := first | omega | (simp only [lnv]; omega)) only [wlk, ↓get_put', ↓reduceIte, seval, f20]; done) | (simp (disch := first | omega | (simp only [lnv]; omega)) only [wlk, ↓get_put', ↓reduceIte, seval, f24]; done) | (simp (disch := first | omega | (simp only [lnv]; omega)) only [wlk, ↓get_put', ↓reduceIte, seval]; done)
        · have d1 : ((a : Int) < (z : Int)) = False := eq_false (by omega)
          repeat' (first
            | refine fin _ _ q0 ?_ ?_ ?_ ?_ ?_ Per.refl hs R1 st1
            | refine St.h ?_
            | simp (disch := first | omega | (simp only [lnv]; omega)) only [wlk, ↓get_put', ↓reduceIte, seval, f0, f1, f3, f4, f18, f20, f24, d1]
            | (with_reducible (first | apply cd_split | apply gd_split)) <;> (intro hc; (try simp only [hcn] at hc); (try simp only [hc]); (try simp only [hcl] at hc); try omega))
          all_goals first | (simp (disch := first | omega | (simp only [lnv]; omega)) only [wlk, ↓get_put', ↓reduceIte, seval, f0]; done) | (simp (disch := first | omega | (simp only [lnv]; omega)) only [wlk, ↓get_put', ↓reduceIte, seval, f1]; done) | (simp (disch := first | omega | (simp only [lnv]; omega)) only [wlk, ↓get_put', ↓reduceIte, seval, f3]; done) | (simp (disch := first | omega | (simp only [lnv]; omega)) only [wlk, ↓get_put', ↓reduceIte, seval, f4]; done) | (simp (disch := first | omega | (simp only [lnv]; omega)) only [wlk, ↓get_put', ↓reduceIte, seval, f18]; done) | (simp (disch := first | omega | (simp only [lnv]; omega)) only [wlk, ↓get_put', ↓reduceIte, seval, f20]; done) | (simp (disch := first | omega | (simp only [lnv]; omega)) only [wlk, ↓get_put', ↓reduceIte, seval, f24]; done) | (simp (disch := first | omega | (simp only [lnv]; omega)) only [wlk, ↓get_put', ↓reduceIte, seval]; done)
    by_cases c1 : z < m ∧ m < e
    · have d2 : ((z : Int) < (m : Int)) = True := eq_true (by omega)
      have d3 : ((m : Int) < (e : Int)) = True := eq_true (by omega)
      repeat' (first
        | refine St.h ?_
        | simp (disch := first | omega | (simp only [lnv]; omega)) only [wlk, ↓get_put', ↓reduceIte, seval, f0, f1, f2, f3, f4, f18, f19, f20, f21, f22, d1, d2, d3, ee]
        | (with_reducible (first | apply cd_split | apply gd_split)) <;> (intro hc; (try simp only [hcn] at hc); (try simp only [hc]); (try simp only [hcl] at hc); try omega))
      refine CL.mk (rot_ok (p := p) (a := z) (m := m) (b := e) rb hN c1.1 c1.2 (by omega) hfg) ?_
      rintro y g2 ⟨R2, s2⟩
      rw [hq0] at R2
      repeat' (first
        | refine mid' _ _ ?_ ?_ ?_ ?_ ?_ ?_ ?_ R2 (st.trans s2)
        | refine St.h ?_
        | simp (disch := first | omega | (simp only [lnv]; omega)) only [wlk, ↓get_put', ↓reduceIte, seval, f0, f1, f2, f3, f4, f18, f19, f20, f21, f22]
        | (with_reducible (first | apply cd_split | apply gd_split)) <;> (intro hc; (try simp only [hcn] at hc); (try simp only [hc]); (try simp only [hcl] at hc); try omega))
      all_goals first | (simp (disch := first | omega | (simp only [lnv]; omega)) only [wlk, ↓get_put', ↓reduceIte, seval, f0]; done) | (simp (disch := first | omega | (simp only [lnv]; omega)) only [wlk, ↓get_put', ↓reduceIte, seval, f1]; done) | (simp (disch := first | omega | (simp only [lnv]; omega)) only [wlk, ↓get_put', ↓reduceIte, seval, f3]; done) | (simp (disch := first | omega | (simp only [lnv]; omega)) only [wlk, ↓get_put', ↓reduceIte, seval, f4]; done) | (simp (disch := first | omega | (simp only [lnv]; omega)) only [wlk, ↓get_put', ↓reduceIte, seval, f18]; done) | (simp (disch := first | omega | (simp only [lnv]; omega)) only [wlk, ↓get_put', ↓reduceIte, seval, f20]; done) | (simp (disch := first | omega | (simp only [lnv]; omega)) only [wlk, ↓get_put', ↓reduceIte, seval, f24]; done) | (simp (disch := first | omega | (simp only [lnv]; omega)) only [wlk, ↓get_put', ↓reduceIte, seval]; done)
    · have hq : q0 = p := by
        rw [← hq0]
        by_cases c2 : z < m
        · rw [show e - m = 0 by omega, rot_n0]
        · rw [show m - z = 0 by omega, rot_0n]
      rw [hq] at mid'
      by_cases c2 : z < m
      · have d2 : ((z : Int) < (m : Int)) = True := eq_true (by omega)
        have d3 : ((m : Int) < (e : Int)) = False := eq_false (by omega)
        repeat' (first
          | refine mid' _ _ ?_ ?_ ?_ ?_ ?_ ?_ ?_ rb st
          | refine St.h ?_
          | simp (disch := first | omega | (simp only [lnv]; omega)) only [wlk, ↓get_put', ↓reduceIte, seval, f0, f1, f2, f3, f4, f18, f19, f20, f21, f22, d1, d2, d3, ee]
          | (with_reducible (first | apply cd_split | apply gd_split)) <;> (intro hc; (try simp only [hcn] at hc); (try simp only [hc]); (try simp only [hcl] at hc); try omega))
        all_goals first | (simp (disch := first | omega | (simp only [lnv]; omega)) only [wlk, ↓get_put', ↓reduceIte, seval, f0]; done) | (simp (disch := first | omega | (simp only [lnv]; omega)) only [wlk, ↓get_put', ↓reduceIte, seval, f1]; done) | (simp (disch := first | omega | (simp only [lnv]; omega)) only [wlk, ↓get_put', ↓reduceIte, seval, f3]; done) | (simp (disch := first | omega | (simp only [lnv]; omega)) only [wlk, ↓get_put', ↓reduceIte, seval, f4]; done) | (simp (disch := first | omega | (simp only [lnv]; omega)) only [wlk, ↓get_put', ↓reduceIte, seval, f18]; done) | (simp (disch := first | omega | (simp only [lnv]; omega)) only [wlk, ↓get_put', ↓reduceIte, seval, f20]; done) | (simp (disch := first | omega | (simp only [lnv]; omega)) only [wlk, ↓get_put', ↓reduceIte, seval, f24]; done) | (simp (disch := first | omega | (simp only [lnv]; omega)) only [wlk, ↓get_put', ↓reduceIte, seval]; done)
      · have d2 : ((z : Int) < (m : Int)) = False := eq_false (by omega)
        repeat' (first
          | refine mid' _ _ ?_ ?_ ?_ ?_ ?_ ?_ ?_ rb st
          | refine St.h ?_
          | simp (disch := first | omega | (simp only [lnv]; omega)) only [wlk, ↓get_put', ↓reduceIte, seval, f0, f1, f2, f3, f4, f18, f19, f20, f21, f22, d1, d2, ee]
          | (with_reducible (first | apply cd_split | apply gd_split)) <;> (intro hc; (try simp only [hcn] at hc); (try simp only [hc]); (try simp only [hcl] at hc); try omega))
        all_goals first | (simp (disch := first | omega | (simp only [lnv]; omega)) only [wlk, ↓get_put', ↓reduceIte, seval, f0]; done) | (simp (disch := first | omega | (simp only [lnv]; omega)) only [wlk, ↓get_put', ↓reduceIte, seval, f1]; done) | (simp (disch := first | omega | (simp only [lnv]; omega)) only [wlk, ↓get_put', ↓reduceIte, seval, f3]; done) | (simp (disch := first | omega | (simp only [lnv]; omega)) only [wlk, ↓get_put', ↓reduceIte, seval, f4]; done) | (simp (disch := first | omega | (simp only [lnv]; omega)) only [wlk, ↓get_put', ↓reduceIte, seval, f18]; done) | (simp (disch := first | omega | (simp only [lnv]; omega)) only [wlk, ↓get_put', ↓reduceIte, seval, f20]; done) | (simp (disch := first | omega | (simp only [lnv]; omega)) only [wlk, ↓get_put', ↓reduceIte, seval, f24]; done) | (simp (disch := first | omega | (simp only [lnv]; omega)) only [wlk, ↓get_put', ↓reduceIte, seval]; done)
  by_cases hg : mid < m
  · obtain ⟨e1, e2⟩ := hz0 hg
    have d1 : ((mid : Int) < (m : Int)) = True := eq_true (by omega)
    have e3 : (mid : Int) + (m : Int) - (b : Int) = (z0 : Int) := by omega
    repeat' (first
      | refine rest _ ?_ ?_ ?_ ?_ ?_ ?_ ?_ ?_ ?_
      | refine St.h ?_
      | simp (disch := first | omega | (simp only [lnv]; omega)) only [wlk, ↓get_put', ↓reduceIte, seval, d0, d00, hm, hm2, d1, e3, Int.toNat_natCast]
      | (with_reducible (first | apply cd_split | apply gd_split)) <;> (intro hc; (try simp only [hcn] at hc); (try simp only [hc]); (try simp only [hcl] at hc); try omega))
    all_goals first
      | (simp (disch := first | omega | (simp only [lnv]; omega)) only [wlk, ↓get_put', ↓reduceIte, seval]; done)
      | (simp (disch := first | omega | (simp only [lnv]; omega)) only [wlk, ↓get_put', ↓reduceIte, seval, e3]; done)
      | rfl
      | rw [e1]
      | rw [e2]
      | (simp (disch := first | omega | (simp only [lnv]; omega)) only [wlk, ↓get_put', ↓reduceIte, seval]; rfl)
  · obtain ⟨e1, e2⟩ := hr0 (by omega)
    have d1 : ((mid : Int) < (m : Int)) = False := eq_false (by omega)
    repeat' (first
      | refine rest _ ?_ ?_ ?_ ?_ ?_ ?_ ?_ ?_ ?_
      | refine St.h ?_
      | simp (disch := first | omega | (simp only [lnv]; omega)) only [wlk, ↓get_put', ↓reduceIte, seval, d0, d00, hm, hm2, d1, Int.toNat_natCast]
      | (with_reducible (first | apply cd_split | apply gd_split)) <;> (intro hc; (try simp only [hcn] at hc); (try simp only [hc]); (try simp only [hcl] at hc); try omega))
    all_goals first
      | (simp (disch := first | omega | (simp only [lnv]; omega)) only [wlk, ↓get_put', ↓reduceIte, seval]; done)
      | rfl
      | rw [e1]
      | rw [e2]
      | (simp (disch := first | omega | (simp only [lnv]; omega)) only [wlk, ↓get_put', ↓reduceIte, seval]; rfl)
theorem sm_all (hN : N ≤ 1000) : ∀ K, SmOk L N K
  | 0 => fun hK => absurd hK (Nat.not_lt_zero _)
  | K + 1 => fun hK rb h1 h2 h3 A Bs S hf => sm_step hN (sm_all hN K) hK rb h1 h2 h3 A Bs S hf
end
end Go.Proofs.Ythncpgkpkdolfaa

set_option linter.all false
namespace Go.Ev
open Go
/-- is the one at place i the last of its key -/
def lasK (M : List Wri) (i : Nat) : Prop := i + 1 = M.length ∨ (M.getD (i + 1) default).key ≠ (M.getD i default).key
instance (M : List Wri) (i : Nat) : Decidable (lasK M i) := by unfold lasK; infer_instance
def kpK (M : List Wri) : Nat → List Wri
  | 0 => []
  | i + 1 => if lasK M i then kpK M i ++ [M.getD i default] else kpK M i
theorem kpK_len (M : List Wri) : ∀ i, (kpK M i).length ≤ i
  | 0 => Nat.le_refl _
  | i + 1 => by
    have := kpK_len M i
    unfold kpK; split
    · rw [List.length_append]; simp; omega
    · omega
theorem kpK_mem {M : List Wri} {m : Wri} : ∀ i, m ∈ kpK M i ↔ ∃ j, j < i ∧ lasK M j ∧ m = M.getD j default
  | 0 => ⟨(fun h => by cases h), fun ⟨j, h, _⟩ => absurd h (Nat.not_lt_zero _)⟩
  | i + 1 => by
    have ih := kpK_mem (M := M) (m := m) i
    unfold kpK
    split
    · rename_i hl
      rw [List.mem_append, ih, List.mem_singleton]
      constructor
      · rintro (⟨j, h1, h2, h3⟩ | h)
        · exact ⟨j, by omega, h2, h3⟩
        · exact ⟨i, by omega, hl, h⟩
      · rintro ⟨j, h1, h2, h3⟩
        by_cases e : j = i
        · right; rw [← e]; exact h3
        · exact .inl ⟨j, by omega, h2, h3⟩
    · rename_i hl
      rw [ih]
      constructor
      · rintro ⟨j, h1, h2, h3⟩; exact ⟨j, by omega, h2, h3⟩
      · rintro ⟨j, h1, h2, h3⟩
        by_cases e : j = i
        · rw [e] at h2; exact absurd h2 hl
        · exact ⟨j, by omega, h2, h3⟩
/-- keys don't fall -/
def Wk (M : List Wri) : Prop := ∀ i j, i < j → j < M.length → Op.bytesLess (M.getD i default).key (M.getD j default).key = true ∨ (M.getD i default).key = (M.getD j default).key
theorem kpK_lt {M : List Wri} (h : Wk M) {i j : Nat} (hl : lasK M i) (hij : i < j) (hj : j < M.length) : Op.bytesLess (M.getD i default).key (M.getD j default).key = true := by
  have hne := hl.resolve_left (by omega)
  have h1 := (h i (i + 1) (by omega) (by omega)).resolve_right fun e => hne e.symm
  by_cases e : i + 1 = j
  · rw [← e]; exact h1
  · rcases h (i + 1) j (by omega) hj with h2 | h2
    · exact bl_trans h1 h2
    · rw [← h2]; exact h1
theorem kpK_up {M : List Wri} (h : Wk M) : ∀ i, i ≤ M.length → Up (kpK M i)
  | 0, _ => List.Pairwise.nil
  | i + 1, hi => by
    have ih := kpK_up h i (by omega)
    unfold kpK; split
    · rename_i hl
      refine List.pairwise_append.2 ⟨ih, List.pairwise_singleton .., fun a ha b hb => ?_⟩
      rw [List.mem_singleton] at hb
      subst hb
      obtain ⟨j, h1, h2, rfl⟩ := (kpK_mem i).1 ha
      exact kpK_lt h h2 h1 (by omega)
    · exact ih
theorem neatB_mem {L : List Wri} {m : Wri} : ∀ {j : Nat}, j ≤ L.length → (m ∈ neatB (L.take j) ↔ ∃ i, i < j ∧ L.getD i default = m ∧ ∀ k, i < k → k < j → (L.getD k default).key ≠ m.key)
  | 0, _ => ⟨(fun h => by simp [neatB] at h), fun ⟨i, h, _⟩ => absurd h (Nat.not_lt_zero _)⟩
  | j + 1, hj => by
    rw [neatB_step (by omega), insW_mem (neatB_up _), neatB_mem (by omega)]
    constructor
    · rintro (e | ⟨⟨i, h1, h2, h3⟩, h4⟩)
      · exact ⟨j, by omega, e.symm, fun k h1 h2 => by omega⟩
      · refine ⟨i, by omega, h2, fun k k1 k2 => ?_⟩
        by_cases e : k = j
        · rw [e]; exact fun h => h4 h.symm
        · exact h3 k k1 (by omega)
    · rintro ⟨i, h1, h2, h3⟩
      by_cases e : i = j
      · left; rw [← e]; exact h2.symm
      · refine .inr ⟨⟨i, by omega, h2, fun k k1 k2 => h3 k k1 (by omega)⟩, fun h => h3 j (by omega) (by omega) h.symm⟩
theorem kpK_neat {L : List Wri} {q : Nat → Nat} (hm : ∀ x, (∃ k, k < L.length ∧ q k = x) ↔ x < L.length) (hs : Srt L q 0 L.length) : kpK (rwK L q L.length) L.length = neatB L := by
  have ln : (rwK L q L.length).length = L.length := rwK_len
  have gt : ∀ i, i < L.length → (rwK L q L.length).getD i default = L.getD (q i) default := fun i hi => rwK_getD hi
  have hw : Wk (rwK L q L.length) := fun i j hij hj => by
    rw [ln] at hj
    rw [gt i (by omega), gt j hj]
    rcases hs i j (Nat.zero_le _) hij hj with h | ⟨h, _⟩
    · exact .inl h
    · exact .inr h
  refine up_ext (kpK_up hw _ (by rw [ln]; exact Nat.le_refl _)) (neatB_up L) fun m => ?_
  have hb := neatB_mem (L := L) (m := m) (j := L.length) (Nat.le_refl _)
  rw [List.take_length] at hb
  rw [kpK_mem, hb]
  constructor
  · rintro ⟨j, hj, hl, rfl⟩
    refine ⟨q j, (hm _).1 ⟨j, hj, rfl⟩, (gt j hj).symm, fun k hk hk2 he => ?_⟩
    obtain ⟨j2, h1, rfl⟩ := (hm k).2 hk2
    rw [← gt j2 h1] at he
    rcases Nat.lt_trichotomy j j2 with h | h | h
    · have h5 := kpK_lt hw hl h (by rw [ln]; exact h1)
      exact bl_ne h5 he.symm
    · rw [h] at hk; omega
    · rcases hs j2 j (Nat.zero_le _) h hj with h5 | ⟨_, h5⟩
      · unfold klK at h5
        rw [← gt j2 h1, ← gt j hj] at h5
        exact bl_ne h5 he
      · omega
  · rintro ⟨i, hi, rfl, h3⟩
    obtain ⟨j, hj, rfl⟩ := (hm i).2 hi
    refine ⟨j, hj, ?_, (gt j hj).symm⟩
    by_cases e : j + 1 = L.length
    · exact .inl (by rw [ln]; exact e)
    · right
      rw [gt j hj, gt (j + 1) (by omega)]
      intro he
      rcases hs j (j + 1) (Nat.zero_le _) (by omega) (by omega) with h5 | ⟨_, h5⟩
      · exact bl_ne h5 he.symm
      · exact h3 (q (j + 1)) h5 ((hm _).1 ⟨j + 1, by omega, rfl⟩) he
end Go.Ev

set_option maxRecDepth 1000000
set_option linter.all false
namespace Go.Proofs.Ythncpgkpkdolfaa
open Go Go.Ev
noncomputable abbrev s15_0 : CC := (CC.seq (CC.region [(wB 2 (doMove (O.c (V.b Bool.false))))]) CC.ret)
noncomputable abbrev s15_1 : CC := (CC.cond (tm 7) s15_0 CC.skip)
noncomputable abbrev s15_2 : CC := (CC.seq (CC.region [(wB 5 (doMove (tm 0))), (wB 6 (doLen (tm 5))), (wB 7 (bin2 fGtr (tm 6) (oN 8)))]) s15_1)
noncomputable abbrev s15_3 : CC := (CC.cond (tm 11) CC.skip (CC.exit 0))
noncomputable abbrev s15_4 : CC := (CC.seq (CC.region [(wB 2 (doMove (O.c (V.b Bool.false))))]) CC.ret)
noncomputable abbrev s15_5 : CC := (CC.cond (tm 17) s15_4 CC.skip)
noncomputable abbrev s15_6 : CC := (CC.seq (CC.region [(wB 15 (doLoadA 3 (tm 4))), (wB 16 (doCall 36 [(tm 15)])), (wB 17 (doNot (tm 16)))]) s15_5)
noncomputable abbrev s15_7 : CC := (CC.seq (CC.region [(wB 2 (doMove (O.c (V.b Bool.false))))]) CC.ret)
noncomputable abbrev s15_8 : CC := (CC.cond (tm 30) s15_7 CC.skip)
noncomputable abbrev s15_9 : CC := (CC.seq (CC.draws [(uB 18 (doMove (tm 3))), (uB 19 (bin2 fGtr (tm 18) (oN 0))), (uB 20 (doMove (tm 19))), (uG 20 true 21 (doMove (tm 0))), (uG 20 true 22 (doMove (tm 3))), (uG 20 true 23 (bin2 fSub (tm 22) (oN 1))), (uG 20 true 24 (doIndexAddr 3 (tm 21) (tm 23))), (uG 20 true 25 (doFieldAddr 0 (tm 24))), (uG 20 true 26 (doLoad (tm 25))), (uG 20 true 27 (doFieldAddr 0 (tm 4))), (uG 20 true 28 (doLoad (tm 27))), (uG 20 true 29 (doSCmp (fun a b c d => !ltS a b c d) (tm 26) (tm 28))), (uB 30 (doPick (tm 20) (tm 29) (O.c (V.b Bool.false))))]) s15_8)
noncomputable abbrev s15_10 : CC := (CC.seq s15_6 s15_9)
noncomputable abbrev s15_11 : CC := (CC.seq (CC.region [(wB 12 (doMove (tm 10))), (wB 13 (doIndexAddr 3 (tm 8) (tm 10))), (wB 14 (doLoadA 3 (tm 13))), (wB 4 (doAlloc 49 [(V.s 0 0), (V.b Bool.false), (V.s 0 0)])), (wB 3 (doMove (tm 12))), (CO.mk G.none D.none Bool.true (CR.mk (doStore 3 (tm 4) (tm 14))))]) s15_10)
noncomputable abbrev s15_12 : CC := (CC.block 1 s15_11)
noncomputable abbrev s15_13 : CC := (CC.region [(wB 31 (bin2 fAdd (tm 10) (oN 1))), (wB 10 (doMove (tm 31)))])
noncomputable abbrev s15_14 : CC := (CC.seq s15_12 s15_13)
noncomputable abbrev s15_15 : CC := (CC.seq s15_3 s15_14)
noncomputable abbrev l15_0 : CC := (CC.seq (CC.region [(wB 11 (bin2 fLss (tm 10) (tm 9)))]) s15_15)
noncomputable abbrev s15_16 : CC := (CC.loop l15_0)
noncomputable abbrev s15_17 : CC := (CC.block 0 s15_16)
noncomputable abbrev s15_18 : CC := (CC.seq (CC.region [(wB 8 (doMove (tm 0))), (wB 9 (doLen (tm 8))), (wB 10 (doMove (oN 0)))]) s15_17)
noncomputable abbrev s15_19 : CC := (CC.seq (CC.region [(wB 2 (doMove (O.c (V.b Bool.true))))]) CC.ret)
noncomputable abbrev s15_20 : CC := (CC.seq s15_18 s15_19)
noncomputable abbrev s15_21 : CC := (CC.seq s15_2 s15_20)
noncomputable abbrev b15 : CC := (CC.seq (CC.region [(wB 2 (doMove (O.c (V.b Bool.false))))]) s15_21)
theorem c15 : compFn Try.prog 15 = ⟨32, b15, [(Rs.tmp (slOf 2))]⟩ := by kernel_rfl
noncomputable abbrev s18_0 : CC := (CC.cond (tm 14) CC.skip (CC.exit 0))
noncomputable abbrev s18_1 : CC := (CC.region [(wB 34 (doMove (tm 4))), (wB 35 (doLoadA 3 (tm 6))), (wB 36 (doBuildSlice 49 1 [(V.s 0 0), (V.b Bool.false), (V.s 0 0)] [(Pt.mk 0 3 (tm 35))])), (wB 37 (doAppend 49 3 (tm 34) (tm 36))), (wB 4 (doMove (tm 37)))])
noncomputable abbrev s18_2 : CC := (CC.cond (tm 33) s18_1 CC.skip)
noncomputable abbrev s18_3 : CC := (CC.seq (CC.draws [(uB 18 (doMove (tm 5))), (uB 19 (bin2 fAdd (tm 18) (oN 1))), (uB 20 (doMove (tm 3))), (uB 21 (doLen (tm 20))), (uB 22 (bin2 fEql (tm 19) (tm 21))), (uB 23 (doMove (tm 22))), (uG 23 false 24 (doMove (tm 3))), (uG 23 false 25 (doMove (tm 5))), (uG 23 false 26 (bin2 fAdd (tm 25) (oN 1))), (uG 23 false 27 (doIndexAddr 3 (tm 24) (tm 26))), (uG 23 false 28 (doFieldAddr 0 (tm 27))), (uG 23 false 29 (doLoad (tm 28))), (uG 23 false 30 (doFieldAddr 0 (tm 6))), (uG 23 false 31 (doLoad (tm 30))), (uG 23 false 32 (doSCmp (fun a b c d => !eqS a b c d) (tm 29) (tm 31))), (uB 33 (doPick (tm 23) (O.c (V.b Bool.true)) (tm 32)))]) s18_2)
noncomputable abbrev s18_4 : CC := (CC.seq (CC.region [(wB 15 (doMove (tm 13))), (wB 16 (doIndexAddr 3 (tm 11) (tm 13))), (wB 17 (doLoadA 3 (tm 16))), (wB 6 (doAlloc 49 [(V.s 0 0), (V.b Bool.false), (V.s 0 0)])), (wB 5 (doMove (tm 15))), (CO.mk G.none D.none Bool.true (CR.mk (doStore 3 (tm 6) (tm 17))))]) s18_3)
noncomputable abbrev s18_5 : CC := (CC.block 1 s18_4)
noncomputable abbrev s18_6 : CC := (CC.region [(wB 38 (bin2 fAdd (tm 13) (oN 1))), (wB 13 (doMove (tm 38)))])
noncomputable abbrev s18_7 : CC := (CC.seq s18_5 s18_6)
noncomputable abbrev s18_8 : CC := (CC.seq s18_0 s18_7)
noncomputable abbrev l18_0 : CC := (CC.seq (CC.region [(wB 14 (bin2 fLss (tm 13) (tm 12)))]) s18_8)
noncomputable abbrev s18_9 : CC := (CC.loop l18_0)
noncomputable abbrev s18_10 : CC := (CC.block 0 s18_9)
noncomputable abbrev s18_11 : CC := (CC.seq (CC.region [(wB 11 (doMove (tm 3))), (wB 12 (doLen (tm 11))), (wB 13 (doMove (oN 0)))]) s18_10)
noncomputable abbrev s18_12 : CC := (CC.seq (CC.region [(wB 39 (doMove (tm 4))), (wB 2 (doMove (tm 39)))]) CC.ret)
noncomputable abbrev s18_13 : CC := (CC.seq s18_11 s18_12)
noncomputable abbrev s18_14 : CC := (CC.seq (CC.region [(wB 4 (doMove (O.c V.l0)))]) s18_13)
noncomputable abbrev s18_15 : CC := (CC.seq (CC.region [(wB 9 (doMove (tm 3))), (wB 10 (doCall 39 [(tm 9), (O.c (V.f 40 []))]))]) s18_14)
noncomputable abbrev s18_16 : CC := (CC.seq (CC.region [(wB 7 (doMove (tm 0))), (wB 8 (doCall 38 [(tm 7)])), (wB 3 (doMove (tm 8)))]) s18_15)
noncomputable abbrev b18 : CC := (CC.seq (CC.region [(wB 2 (doMove (O.c V.l0)))]) s18_16)
theorem c18 : compFn Try.prog 18 = ⟨40, b18, [(Rs.tmp (slOf 2))]⟩ := by kernel_rfl
noncomputable abbrev s9_0 : CC := (CC.seq (CC.region [(wB 4 (doMove (O.c (V.s 0 0)))), (wB 5 (doMove (oN 10)))]) CC.ret)
noncomputable abbrev s9_1 : CC := (CC.cond (tm 19) s9_0 CC.skip)
noncomputable abbrev s9_2 : CC := (CC.seq (CC.region [(wB 9 (doMove (tm 1))), (wB 10 (doCall 15 [(tm 9)])), (wB 11 (doNot (tm 10))), (wB 12 (doMove (tm 11))), (wG 12 false 13 (doMove (tm 0))), (wG 12 false 14 (bin2 fLss (tm 13) (oN 1))), (wB 15 (doPick (tm 12) (O.c (V.b Bool.true)) (tm 14))), (wB 16 (doMove (tm 15))), (wG 16 false 17 (doMove (tm 0))), (wG 16 false 18 (bin2 fGtr (tm 17) (oN 1000000))), (wB 19 (doPick (tm 16) (O.c (V.b Bool.true)) (tm 18)))]) s9_1)
noncomputable abbrev s9_3 : CC := (CC.cond (tm 30) CC.skip (CC.exit 0))
noncomputable abbrev s9_4 : CC := (CC.region [(wB 33 (doLoadA 3 (tm 8))), (wB 34 (doCall 25 [(tm 33)])), (wB 35 (doCall 23 [(tm 6), (tm 34)]))])
noncomputable abbrev s9_5 : CC := (CC.seq (CC.region [(wB 31 (doIndexAddr 3 (tm 27) (tm 29))), (wB 32 (doLoadA 3 (tm 31))), (wB 8 (doAlloc 49 [(V.s 0 0), (V.b Bool.false), (V.s 0 0)])), (CO.mk G.none D.none Bool.true (CR.mk (doStore 3 (tm 8) (tm 32))))]) s9_4)
noncomputable abbrev s9_6 : CC := (CC.block 1 s9_5)
noncomputable abbrev s9_7 : CC := (CC.region [(wB 36 (bin2 fAdd (tm 29) (oN 1))), (wB 29 (doMove (tm 36)))])
noncomputable abbrev s9_8 : CC := (CC.seq s9_6 s9_7)
noncomputable abbrev s9_9 : CC := (CC.seq s9_3 s9_8)
noncomputable abbrev l9_0 : CC := (CC.seq (CC.region [(wB 30 (bin2 fLss (tm 29) (tm 28)))]) s9_9)
noncomputable abbrev s9_10 : CC := (CC.loop l9_0)
noncomputable abbrev s9_11 : CC := (CC.block 0 s9_10)
noncomputable abbrev s9_12 : CC := (CC.seq (CC.region [(wB 27 (doMove (tm 1))), (wB 28 (doLen (tm 27))), (wB 29 (doMove (oN 0)))]) s9_11)
noncomputable abbrev s9_13 : CC := (CC.seq (CC.region [(wB 37 (doCall 27 [(tm 6)])), (wB 38 (doCall 26 [(tm 37)])), (wB 4 (doMove (tm 38))), (wB 5 (doMove (oN 0)))]) CC.ret)
noncomputable abbrev s9_14 : CC := (CC.seq s9_12 s9_13)
noncomputable abbrev s9_15 : CC := (CC.seq (CC.region [(wB 23 (doMove (tm 1))), (wB 24 (doLen (tm 23))), (wB 25 (doCall 24 [(tm 24)])), (wB 26 (doCall 23 [(tm 6), (tm 25)]))]) s9_14)
noncomputable abbrev s9_16 : CC := (CC.seq (CC.region [(wB 20 (doMove (tm 0))), (wB 21 (doCall 24 [(tm 20)])), (wB 22 (doCall 23 [(tm 6), (tm 21)]))]) s9_15)
noncomputable abbrev s9_17 : CC := (CC.seq (CC.region [(wB 6 (doAlloc 54 [V.p0, V.l0]))]) s9_16)
noncomputable abbrev s9_18 : CC := (CC.seq s9_2 s9_17)
noncomputable abbrev b9 : CC := (CC.seq (CC.region [(wB 4 (doMove (O.c (V.s 0 0)))), (wB 5 (doMove (oN 0)))]) s9_18)
theorem c9 : compFn Try.prog 9 = ⟨39, b9, [(Rs.tmp (slOf 4)), (Rs.tmp (slOf 5))]⟩ := by kernel_rfl
noncomputable abbrev s21_0 : CC := (CC.seq (CC.region [(wB 4 (doMove (O.c V.l0)))]) CC.ret)
noncomputable abbrev s21_1 : CC := (CC.cond (tm 10) s21_0 CC.skip)
noncomputable abbrev s21_2 : CC := (CC.seq (CC.region [(wB 8 (doMove (tm 1))), (wB 9 (doCall 15 [(tm 8)])), (wB 10 (doNot (tm 9)))]) s21_1)
noncomputable abbrev s21_3 : CC := (CC.cond (tm 14) CC.skip (CC.exit 0))
noncomputable abbrev s21_4 : CC := (CC.region [(wB 17 (doMove (tm 5))), (wB 18 (doFieldAddr 0 (tm 7))), (wB 19 (doLoad (tm 18))), (wB 20 (doMove (tm 0))), (wB 21 (doFieldAddr 1 (tm 7))), (wB 22 (doLoad (tm 21))), (wB 23 (doFieldAddr 2 (tm 7))), (wB 24 (doLoad (tm 23))), (wB 25 (doBuild [(V.s 0 0), (V.i IntKind.i64 (Int.ofNat 0)), (V.b Bool.false), (V.s 0 0)] [(Pt.mk 0 1 (tm 19)), (Pt.mk 1 1 (tm 20)), (Pt.mk 2 1 (tm 22)), (Pt.mk 3 1 (tm 24))])), (wB 26 (doBuildSlice 79 1 [(V.s 0 0), (V.i IntKind.i64 (Int.ofNat 0)), (V.b Bool.false), (V.s 0 0)] [(Pt.mk 0 4 (tm 25))])), (wB 27 (doAppend 79 4 (tm 17) (tm 26))), (wB 5 (doMove (tm 27)))])
noncomputable abbrev s21_5 : CC := (CC.seq (CC.region [(wB 15 (doIndexAddr 3 (tm 11) (tm 13))), (wB 16 (doLoadA 3 (tm 15))), (wB 7 (doAlloc 49 [(V.s 0 0), (V.b Bool.false), (V.s 0 0)])), (CO.mk G.none D.none Bool.true (CR.mk (doStore 3 (tm 7) (tm 16))))]) s21_4)
noncomputable abbrev s21_6 : CC := (CC.block 1 s21_5)
noncomputable abbrev s21_7 : CC := (CC.region [(wB 28 (bin2 fAdd (tm 13) (oN 1))), (wB 13 (doMove (tm 28)))])
noncomputable abbrev s21_8 : CC := (CC.seq s21_6 s21_7)
noncomputable abbrev s21_9 : CC := (CC.seq s21_3 s21_8)
noncomputable abbrev l21_0 : CC := (CC.seq (CC.region [(wB 14 (bin2 fLss (tm 13) (tm 12)))]) s21_9)
noncomputable abbrev s21_10 : CC := (CC.loop l21_0)
noncomputable abbrev s21_11 : CC := (CC.block 0 s21_10)
noncomputable abbrev s21_12 : CC := (CC.seq (CC.region [(wB 11 (doMove (tm 1))), (wB 12 (doLen (tm 11))), (wB 13 (doMove (oN 0)))]) s21_11)
noncomputable abbrev s21_13 : CC := (CC.seq (CC.region [(wB 29 (doMove (tm 5))), (wB 4 (doMove (tm 29)))]) CC.ret)
noncomputable abbrev s21_14 : CC := (CC.seq s21_12 s21_13)
noncomputable abbrev s21_15 : CC := (CC.seq (CC.region [(wB 5 (doMove (O.c V.l0)))]) s21_14)
noncomputable abbrev s21_16 : CC := (CC.seq s21_2 s21_15)
noncomputable abbrev b21 : CC := (CC.seq (CC.region [(wB 4 (doMove (O.c V.l0)))]) s21_16)
theorem c21 : compFn Try.prog 21 = ⟨30, b21, [(Rs.tmp (slOf 4))]⟩ := by kernel_rfl
noncomputable abbrev s25_0 : CC := (CC.seq (CC.draws [(uB 5 (doFieldAddr 0 (tm 1))), (uB 6 (doLoad (tm 5))), (uB 7 (doCall 43 [(tm 6)])), (uB 8 (doBuildSlice 5 1 [(V.i IntKind.u8 (Int.ofNat 0))] [(Pt.mk 0 1 (O.c (V.i IntKind.u8 (Int.ofNat 1))))])), (uB 9 (doB2S (tm 8))), (uB 10 (doConcat (tm 7) (tm 9))), (uB 2 (doMove (tm 10)))]) CC.ret)
noncomputable abbrev s25_1 : CC := (CC.cond (tm 4) s25_0 CC.skip)
noncomputable abbrev s25_2 : CC := (CC.seq (CC.region [(wB 3 (doFieldAddr 1 (tm 1))), (wB 4 (doLoad (tm 3)))]) s25_1)
noncomputable abbrev s25_3 : CC := (CC.seq (CC.draws [(uB 11 (doFieldAddr 0 (tm 1))), (uB 12 (doLoad (tm 11))), (uB 13 (doCall 43 [(tm 12)])), (uB 14 (doBuildSlice 5 1 [(V.i IntKind.u8 (Int.ofNat 0))] [(Pt.mk 0 1 (O.c (V.i IntKind.u8 (Int.ofNat 0))))])), (uB 15 (doB2S (tm 14))), (uB 16 (doConcat (tm 13) (tm 15))), (uB 17 (doFieldAddr 2 (tm 1))), (uB 18 (doLoad (tm 17))), (uB 19 (doCall 43 [(tm 18)])), (uB 20 (doConcat (tm 16) (tm 19))), (uB 2 (doMove (tm 20)))]) CC.ret)
noncomputable abbrev s25_4 : CC := (CC.seq s25_2 s25_3)
noncomputable abbrev b25 : CC := (CC.seq (CC.region [(wB 1 (doBox 49 (tm 0))), (wB 2 (doMove (O.c (V.s 0 0))))]) s25_4)
theorem c25 : compFn Try.prog 25 = ⟨21, b25, [(Rs.tmp (slOf 2))]⟩ := by kernel_rfl
end Go.Proofs.Ythncpgkpkdolfaa

set_option maxRecDepth 100000
set_option maxHeartbeats 8000000
set_option linter.all false
namespace Go.Proofs.Ythncpgkpkdolfaa
open Go Go.Ev
section
variable {L : List Wri}
theorem isortW0_ok {h : H} {v c : V} : FnOk Try.prog 57 [v, .i .i64 0, .i .i64 0, c] h fun y h' => h' = h := by
  refine fn_go c57 (by intro hb; cases hb) (by simp) (by simp) fun Q hQ => ?_
  simp only [slotsF, Nat.reduceAdd]
  repeat' (first
    | refine St.h ?_
    | simp (disch := first | omega | (simp only [lnv]; omega)) only [wlk, ↓get_put', ↓reduceIte, seval]
    | (with_reducible (first | apply cd_split | apply gd_split)) <;> (intro hc; (try simp only [hcn] at hc); (try simp only [hc]); (try simp only [hcl] at hc); try omega))
  refine Ok.lp (fun m t g => m = 0 ∧ h = g ∧ get 2 t = .i .i64 0 ∧ get 8 t = .i .i64 1) 0 ?_ ?_
  · simp (disch := first | omega | (simp only [lnv]; omega)) only [wlk, ↓get_put', ↓reduceIte, seval]
    repeat' (first | trivial | rfl | refine And.intro ?_ ?_)
  rintro I hI m t g ⟨rfl, rfl, f2, f8⟩
  repeat' (first
    | refine St.h ?_
    | simp (disch := first | omega | (simp only [lnv]; omega)) only [wlk, ↓get_put', ↓reduceIte, seval, f2, f8]
    | (with_reducible (first | apply cd_split | apply gd_split)) <;> (intro hc; (try simp only [hcn] at hc); (try simp only [hc]); (try simp only [hcl] at hc); try omega))
  subst hQ
  rfl
theorem stable0_ok {h : H} {v c : V} : FnOk Try.prog 51 [v, .i .i64 0, c] h fun y h' => h' = h := by
  refine fn_go c51 (by intro hb; cases hb) (by simp) (by simp) fun Q hQ => ?_
  simp only [slotsF, Nat.reduceAdd]
  repeat' (first
    | refine St.h ?_
    | simp (disch := first | omega | (simp only [lnv]; omega)) only [wlk, ↓get_put', ↓reduceIte, seval]
    | (with_reducible (first | apply cd_split | apply gd_split)) <;> (intro hc; (try simp only [hcn] at hc); (try simp only [hc]); (try simp only [hcl] at hc); try omega))
  refine Ok.lp (fun m t g => m = 0 ∧ h = g ∧ get 0 t = v ∧ get 1 t = .i .i64 0 ∧ get 2 t = c ∧ get 6 t = .i .i64 20 ∧ get 7 t = .i .i64 0 ∧ get 8 t = .i .i64 20) 0 ?_ ?_
  · simp (disch := first | omega | (simp only [lnv]; omega)) only [wlk, ↓get_put', ↓reduceIte, seval]
    repeat' (first | trivial | rfl | refine And.intro ?_ ?_)
  rintro I hI m t g ⟨rfl, rfl, f0, f1, f2, f6, f7, f8⟩
  repeat' (first
    | refine St.h ?_
    | simp (disch := first | omega | (simp only [lnv]; omega)) only [wlk, ↓get_put', ↓reduceIte, seval, f0, f1, f2, f6, f7, f8]
    | (with_reducible (first | apply cd_split | apply gd_split)) <;> (intro hc; (try simp only [hcn] at hc); (try simp only [hc]); (try simp only [hcl] at hc); try omega))
  refine CL.mk isortW0_ok ?_
  rintro y g1 rfl
  repeat' (first
    | refine St.h ?_
    | simp (disch := first | omega | (simp only [lnv]; omega)) only [wlk, ↓get_put', ↓reduceIte, seval, f0, f1, f2, f6, f7, f8]
    | (with_reducible (first | apply cd_split | apply gd_split)) <;> (intro hc; (try simp only [hcn] at hc); (try simp only [hc]); (try simp only [hcl] at hc); try omega))
  refine Ok.lp (fun m t g => m = 0 ∧ g1 = g ∧ get 0 t = v ∧ get 1 t = .i .i64 0 ∧ get 6 t = .i .i64 20) 0 ?_ ?_
  · simp (disch := first | omega | (simp only [lnv]; omega)) only [wlk, ↓get_put', ↓reduceIte, seval, f0, f1, f6]
    repeat' (first | trivial | rfl | refine And.intro ?_ ?_)
  rintro I2 hI2 m t g ⟨rfl, rfl, f0, f1, f6⟩
  repeat' (first
    | refine St.h ?_
    | simp (disch := first | omega | (simp only [lnv]; omega)) only [wlk, ↓get_put', ↓reduceIte, seval, f0, f1, f6]
    | (with_reducible (first | apply cd_split | apply gd_split)) <;> (intro hc; (try simp only [hcn] at hc); (try simp only [hc]); (try simp only [hcl] at hc); try omega))
  subst hQ
  rfl
theorem stable_ok {h : H} {v : V} (rb : Rw h v L) (hn : L.length < 40) (hf : B.val h.floor ≤ B.val h.next) : FnOk Try.prog 51 [v, .i .i64 (L.length : Int), .f 40 []] h fun y h' =>
    ∃ q, (∀ x, (∃ k, k < L.length ∧ q k = x) ↔ x < L.length) ∧ Srt L q 0 L.length ∧ Rw h' v (rwK L q L.length) ∧ Stay (isOf v) h h' := by
  have rid : Rw h v (rwK L (fun i => i) L.length) := by rw [rwK_id]; exact rb
  have hmem : ∀ q, Per (fun i => i) q 0 L.length → ∀ x, (∃ k, k < L.length ∧ q k = x) ↔ x < L.length := fun q hp x => by
    constructor
    · rintro ⟨k, h1, h2⟩
      obtain ⟨j, j1, j2, j3⟩ := (hp.mem x).1 ⟨k, Nat.zero_le _, h1, h2⟩
      have j3 : j = x := j3
      omega
    · intro hx
      obtain ⟨k, k1, k2, k3⟩ := (hp.mem x).2 ⟨x, Nat.zero_le _, hx, rfl⟩
      exact ⟨k, k2, k3⟩
  refine fn_go c51 (by intro hb; cases hb) (by simp) (by simp) fun Q hQ => ?_
  simp only [slotsF, Nat.reduceAdd]
  repeat' (first
    | refine St.h ?_
    | simp (disch := first | omega | (simp only [lnv]; omega)) only [wlk, ↓get_put', ↓reduceIte, seval]
    | (with_reducible (first | apply cd_split | apply gd_split)) <;> (intro hc; (try simp only [hcn] at hc); (try simp only [hc]); (try simp only [hcl] at hc); try omega))
  -- behind the first loop: a is 0 or 20
  refine Ok.lp (fun m t g => ∃ (a : Nat) (q : Nat → Nat), ((m = 1 ∧ a = 0) ∨ (m = 0 ∧ a = 20 ∧ 20 ≤ L.length)) ∧ get 0 t = v ∧ get 1 t = .i .i64 (L.length : Int) ∧ get 2 t = .f 40 [] ∧ get 6 t = .i .i64 20 ∧ get 7 t = .i .i64 (a : Int) ∧ get 8 t = .i .i64 ((a + 20 : Nat) : Int) ∧ Per (fun i => i) q 0 a ∧ Srt L q 0 a ∧ Rw g v (rwK L q L.length) ∧ Stay (isOf v) h g) 1 ?_ ?_
  · simp (disch := first | omega | (simp only [lnv]; omega)) only [wlk, ↓get_put', ↓reduceIte, seval]
    refine ⟨0, fun i => i, .inl (by simp), ?_⟩
    refine ⟨?_, ?_, ?_, ?_, ?_, ?_, Per.refl, fun i j h1 h2 h3 => by omega, rid, ⟨rfl, Nat.le_refl _, fun _ _ _ => rfl⟩⟩
    all_goals first | trivial | rfl
  rintro I hI m t g ⟨a, q, hma, f0, f1, f2, f6, f7, f8, hp, hs, rb1, st⟩
  have hfg := st.fl hf
  by_cases hle : a + 20 ≤ L.length
  case pos =>
    obtain ⟨rfl, rfl⟩ : m = 1 ∧ a = 0 := by omega
    have d1 : (((0 + 20 : Nat) : Int) ≤ (L.length : Int)) = True := eq_true (by omega)
    repeat' (first
      | refine St.h ?_
      | simp (disch := first | omega | (simp only [lnv]; omega)) only [wlk, ↓get_put', ↓reduceIte, seval, f0, f1, f2, f6, f7, f8, d1]
      | (with_reducible (first | apply cd_split | apply gd_split)) <;> (intro hc; (try simp only [hcn] at hc); (try simp only [hc]); (try simp only [hcl] at hc); try omega))
    refine CL.mk (isortW_ok (L := L) (N := L.length) (p := q) (a := 0) (b := 20) rb1 (by omega) (by omega) (by omega) (fun k _ _ => hp.out k (.inr (Nat.zero_le _))) hfg) ?_
    rintro y g1 ⟨q1, P1, S1, R1, s1⟩
    repeat' (first
      | refine St.h ?_
      | simp (disch := first | omega | (simp only [lnv]; omega)) only [wlk, ↓get_put', ↓reduceIte, seval, f0, f1, f2, f6, f7, f8]
      | (with_reducible (first | apply cd_split | apply gd_split)) <;> (intro hc; (try simp only [hcn] at hc); (try simp only [hc]); (try simp only [hcl] at hc); try omega))
    refine lp_next hI 0 (by omega) ⟨20, q1, .inr ⟨rfl, rfl, by omega⟩, by simp (disch := first | omega | (simp only [lnv]; omega)) only [wlk, ↓get_put', ↓reduceIte, seval, f0], by simp (disch := first | omega | (simp only [lnv]; omega)) only [wlk, ↓get_put', ↓reduceIte, seval, f1], by simp (disch := first | omega | (simp only [lnv]; omega)) only [wlk, ↓get_put', ↓reduceIte, seval, f2], by simp (disch := first | omega | (simp only [lnv]; omega)) only [wlk, ↓get_put', ↓reduceIte, seval, f6], by simp (disch := first | omega | (simp only [lnv]; omega)) only [wlk, ↓get_put', ↓reduceIte, seval, f8], by simp (disch := first | omega | (simp only [lnv]; omega)) only [wlk, ↓get_put', ↓reduceIte, seval, f8], (hp.wide (Nat.le_refl _) (by omega)).trans P1, S1, R1, st.trans s1⟩
  have ha : a ≤ L.length ∧ L.length < a + 20 := by omega
  have d1 : (((a + 20 : Nat) : Int) ≤ (L.length : Int)) = False := eq_false (by omega)
  repeat' (first
    | refine St.h ?_
    | simp (disch := first | omega | (simp only [lnv]; omega)) only [wlk, ↓get_put', ↓reduceIte, seval, f0, f1, f2, f6, f7, f8, d1]
    | (with_reducible (first | apply cd_split | apply gd_split)) <;> (intro hc; (try simp only [hcn] at hc); (try simp only [hc]); (try simp only [hcl] at hc); try omega))
  refine CL.mk (isortW_ok (L := L) (N := L.length) (p := q) (a := a) (b := L.length) rb1 (by omega) ha.1 (Nat.le_refl _) (fun k hk _ => hp.out k (.inr hk)) hfg) ?_
  rintro y g1 ⟨q1, P1, S1, R1, s1⟩
  have hf1 := s1.fl hfg
  have st1 := st.trans s1
  have Pt : Per (fun i => i) q1 0 L.length := (hp.wide (Nat.le_refl _) ha.1).trans (P1.wide (Nat.zero_le _) (Nat.le_refl _))
  repeat' (first
    | refine St.h ?_
    | simp (disch := first | omega | (simp only [lnv]; omega)) only [wlk, ↓get_put', ↓reduceIte, seval, f0, f1, f2, f6, f7, f8]
    | (with_reducible (first | apply cd_split | apply gd_split)) <;> (intro hc; (try simp only [hcn] at hc); (try simp only [hc]); (try simp only [hcl] at hc); try omega))
  -- the second loop merges once, if at all
  refine Ok.lp (fun m t g => ∃ (s : Nat) (q : Nat → Nat), ((m = 1 ∧ s = 20 ∧ q = q1) ∨ (m = 0 ∧ s = 40 ∧ 20 < L.length ∧ Per q1 q 0 L.length ∧ Srt L q 0 L.length)) ∧ get 0 t = v ∧ get 1 t = .i .i64 (L.length : Int) ∧ get 2 t = .f 40 [] ∧ get 6 t = .i .i64 (s : Int) ∧ Rw g v (rwK L q L.length) ∧ Stay (isOf v) h g) 1 ?_ ?_
  · simp (disch := first | omega | (simp only [lnv]; omega)) only [wlk, ↓get_put', ↓reduceIte, seval, f0, f1, f2, f6]
    refine ⟨20, q1, .inl (by simp), ?_⟩
    refine ⟨?_, ?_, ?_, ?_, R1, st1⟩
    all_goals first | trivial | rfl
  rintro I2 hI2 m2 t2 g2 ⟨s, q2, hms, e0, e1, e2, e6, R2, st2⟩
  have hf2 := st2.fl hf
  by_cases hlt : s < L.length
  case neg =>
    have d1 : ((s : Int) < (L.length : Int)) = False := eq_false (by omega)
    repeat' (first
      | refine St.h ?_
      | simp (disch := first | omega | (simp only [lnv]; omega)) only [wlk, ↓get_put', ↓reduceIte, seval, e0, e1, e2, e6, d1]
      | (with_reducible (first | apply cd_split | apply gd_split)) <;> (intro hc; (try simp only [hcn] at hc); (try simp only [hc]); (try simp only [hcl] at hc); try omega))
    subst hQ
    rcases hms with ⟨_, rfl, rfl⟩ | ⟨_, _, _, P2, S2⟩
    · refine ⟨q2, hmem _ Pt, ?_, R2, st2⟩
      by_cases h0 : a = 0
      · subst h0; exact S1
      · obtain rfl : a = 20 := by omega
        intro i j h1 h2 h3
        have := srt_out hs fun k k1 k2 => P1.out k (.inl k2)
        exact this i j h1 h2 (by omega)
    · exact ⟨q2, hmem _ (Pt.trans P2), S2, R2, st2⟩
  obtain ⟨rfl, rfl, rfl⟩ : m2 = 1 ∧ s = 20 ∧ q2 = q1 := by
    rcases hms with h | h
    · exact h
    · omega
  obtain rfl : a = 20 := by omega
  have d1 : (((20 : Nat) : Int) < (L.length : Int)) = True := eq_true (by omega)
  repeat' (first
    | refine St.h ?_
    | simp (disch := first | omega | (simp only [lnv]; omega)) only [wlk, ↓get_put', ↓reduceIte, seval, e0, e1, e2, e6, d1]
    | (with_reducible (first | apply cd_split | apply gd_split)) <;> (intro hc; (try simp only [hcn] at hc); (try simp only [hc]); (try simp only [hcl] at hc); try omega))
  refine Ok.lp (fun m t g => m = 0 ∧ g2 = g ∧ get 0 t = v ∧ get 1 t = .i .i64 (L.length : Int) ∧ get 2 t = .f 40 [] ∧ get 6 t = .i .i64 20 ∧ get 7 t = .i .i64 0 ∧ get 8 t = .i .i64 40) 0 ?_ ?_
  · simp (disch := first | omega | (simp only [lnv]; omega)) only [wlk, ↓get_put', ↓reduceIte, seval, e0, e1, e2, e6]
    repeat' (first | trivial | rfl | refine And.intro ?_ ?_)
  rintro I3 hI3 m3 t3 g3 ⟨rfl, rfl, f0, f1, f2, f6, f7, f8⟩
  have d2 : ((40 : Int) ≤ (L.length : Int)) = False := eq_false (by omega)
  have d3 : ((20 : Int) < (L.length : Int)) = True := eq_true (by omega)
  repeat' (first
    | refine St.h ?_
    | simp (disch := first | omega | (simp only [lnv]; omega)) only [wlk, ↓get_put', ↓reduceIte, seval, f0, f1, f2, f6, f7, f8, d2, d3]
    | (with_reducible (first | apply cd_split | apply gd_split)) <;> (intro hc; (try simp only [hcn] at hc); (try simp only [hc]); (try simp only [hcl] at hc); try omega))
  have hsm := sm_all (L := L) (N := L.length) (by omega) (L.length + 1) (h := g2) (v := v) (p := q2) (a := 0) (m := 20) (b := L.length) (by omega) R2 (by omega) (by omega) (Nat.le_refl _) (srt_out hs fun k k1 k2 => P1.out k (.inl k2)) S1 (fun i j i1 i2 i3 i4 _ => by
    have h5 : q2 i < 20 := by
      obtain ⟨k, k1, k2, k3⟩ := (hp.mem (q i)).1 ⟨i, i1, i2, rfl⟩
      have k3 : k = q i := k3
      rw [P1.out i (.inl i2)]; omega
    have h6 : 20 ≤ q2 j := by
      obtain ⟨k, k1, k2, k3⟩ := (P1.mem (q2 j)).1 ⟨j, i3, i4, rfl⟩
      rw [hp.out k (.inr k1)] at k3
      have k3 : k = q2 j := k3
      omega
    omega) hf2
  refine CL.mk hsm ?_
  rintro y g4 ⟨q4, P4, S4, R4, s4⟩
  repeat' (first
    | refine St.h ?_
    | simp (disch := first | omega | (simp only [lnv]; omega)) only [wlk, ↓get_put', ↓reduceIte, seval, f0, f1, f2, f6, f7, f8]
    | (with_reducible (first | apply cd_split | apply gd_split)) <;> (intro hc; (try simp only [hcn] at hc); (try simp only [hc]); (try simp only [hcl] at hc); try omega))
  refine lp_next hI2 0 (by omega) ⟨40, q4, .inr ⟨rfl, rfl, by omega, P4, S4⟩, by simp (disch := first | omega | (simp only [lnv]; omega)) only [wlk, ↓get_put', ↓reduceIte, seval, f0], by simp (disch := first | omega | (simp only [lnv]; omega)) only [wlk, ↓get_put', ↓reduceIte, seval, f1], by simp (disch := first | omega | (simp only [lnv]; omega)) only [wlk, ↓get_put', ↓reduceIte, seval, f2], by simp (disch := first | omega | (simp only [lnv]; omega)) only [wlk, ↓get_put', ↓reduceIte, seval, f6], R4, st2.trans s4⟩
theorem sort12_ok {h h0 : H} {v : V} (hc : ClW h0 h v L) (hn : L.length < 40) (hf : B.val h.floor ≤ B.val h.next) (hn0 : B.val h0.next ≤ B.val h.next) : FnOk Try.prog 39 [v, .f 40 []] h fun y h' =>
    ∃ M, kpK M M.length = neatB L ∧ M.length = L.length ∧ Ws h' v M ∧ Stay (fun q => B.val h0.next ≤ B.val q) h h' := by
  refine fn_go c39 (by intro hb; cases hb) (by simp) (by simp) fun Q hQ => ?_
  simp only [slotsF, Nat.reduceAdd]
  rcases hc with ⟨rfl, hw, hsw⟩ | ⟨hne, rb, hsw, own⟩
  · repeat' (first
      | refine St.h ?_
      | simp (disch := first | omega | (simp only [lnv]; omega)) only [wlk, ↓get_put', ↓reduceIte, seval, hw.ln]
      | (with_reducible (first | apply cd_split | apply gd_split)) <;> (intro hc; (try simp only [hcn] at hc); (try simp only [hc]); (try simp only [hcl] at hc); try omega))
    refine CL.mk stable0_ok ?_
    rintro y g1 rfl
    repeat' (first
      | refine St.h ?_
      | simp (disch := first | omega | (simp only [lnv]; omega)) only [wlk, ↓get_put', ↓reduceIte, seval]
      | (with_reducible (first | apply cd_split | apply gd_split)) <;> (intro hc; (try simp only [hcn] at hc); (try simp only [hc]); (try simp only [hcl] at hc); try omega))
    subst hQ
    exact ⟨[], rfl, rfl, hw, ⟨rfl, Nat.le_refl _, fun _ _ _ => rfl⟩⟩
  · have hw := rb.ws
    repeat' (first
      | refine St.h ?_
      | simp (disch := first | omega | (simp only [lnv]; omega)) only [wlk, ↓get_put', ↓reduceIte, seval, hw.ln]
      | (with_reducible (first | apply cd_split | apply gd_split)) <;> (intro hc; (try simp only [hcn] at hc); (try simp only [hc]); (try simp only [hcl] at hc); try omega))
    refine CL.mk (stable_ok rb hn hf) ?_
    rintro y g1 ⟨q, q1, q2, q3, q4⟩
    repeat' (first
      | refine St.h ?_
      | simp (disch := first | omega | (simp only [lnv]; omega)) only [wlk, ↓get_put', ↓reduceIte, seval]
      | (with_reducible (first | apply cd_split | apply gd_split)) <;> (intro hc; (try simp only [hcn] at hc); (try simp only [hc]); (try simp only [hcl] at hc); try omega))
    subst hQ
    refine ⟨_, ?_, rwK_len, q3.ws, q4.mono fun id _ hi => own id hi⟩
    rw [rwK_len]; exact kpK_neat q1 q2
theorem bneat_ok {h : H} {v : V} {L : List Wri} (hL : Ws h v L) (hw : SwN 3 v) (hl : L.length < 40) (hk : ∀ w ∈ L, w.key.length ≤ 100000) (hf : B.val h.floor ≤ B.val h.next) : FnOk Try.prog 18 [v] h fun y h' => Ws h' y (neatB L) ∧ SwN 3 y ∧ Stay nowhere h h' := by
  refine fn_go c18 (by intro hb; cases hb) (by simp) (by simp) fun Q hQ => ?_
  simp only [slotsF, Nat.reduceAdd]
  repeat' (first
    | refine St.h ?_
    | simp (disch := first | omega | (simp only [lnv]; omega)) only [wlk, ↓get_put', ↓reduceIte, seval]
    | (with_reducible (first | apply cd_split | apply gd_split)) <;> (intro hc; (try simp only [hcn] at hc); (try simp only [hc]); (try simp only [hcl] at hc); try omega))
  refine CL.mk (cloneW_ok hL (by omega) hf) ?_
  rintro v2 h1 ⟨hc, s1⟩
  have hf1 := s1.fl hf
  repeat' (first
    | refine St.h ?_
    | simp (disch := first | omega | (simp only [lnv]; omega)) only [wlk, ↓get_put', ↓reduceIte, seval]
    | (with_reducible (first | apply cd_split | apply gd_split)) <;> (intro hc; (try simp only [hcn] at hc); (try simp only [hc]); (try simp only [hcl] at hc); try omega))
  refine CL.mk (sort12_ok hc hl hf1 s1.next) ?_
  rintro y h2 ⟨M, hM, hMl, wM, s2⟩
  have st2 : Stay nowhere h h2 := s1.past' s2 fun id hi => hi
  have hf2 := st2.fl hf
  repeat' (first
    | refine St.h ?_
    | simp (disch := first | omega | (simp only [lnv]; omega)) only [wlk, ↓get_put', ↓reduceIte, seval, wM.ln]
    | (with_reducible (first | apply cd_split | apply gd_split)) <;> (intro hc; (try simp only [hcn] at hc); (try simp only [hc]); (try simp only [hcl] at hc); try omega))
  refine Ok.lp (fun m t g => ∃ (i : Nat) (u : V), m = M.length - i ∧ i ≤ M.length ∧ get 3 t = v2 ∧ get 4 t = u ∧ get 11 t = v2 ∧ get 12 t = .i .i64 (M.length : Int) ∧ get 13 t = .i .i64 (i : Int) ∧ Buf g 49 3 u ((kpK M i).flatMap wriC) ∧ (∀ q, isOf u q → B.val h2.next ≤ B.val q) ∧ Stay nowhere h2 g) M.length ?_ ?_
  · simp (disch := first | omega | (simp only [lnv]; omega)) only [wlk, ↓get_put', ↓reduceIte, seval]
    refine ⟨0, .l0, by omega, by omega, ?_⟩
    refine ⟨?_, ?_, ?_, ?_, ?_, .inl ⟨rfl, rfl⟩, ?_, Stay.refl _ _⟩
    rotate_right
    · rintro i ⟨_, _, _, _, _, e⟩; cases e
    all_goals first | trivial | rfl
  rintro I hI m t g ⟨i, u, rfl, hi, f3, f4, f11, f12, f13, bu, own, st⟩
  have hfg := st.fl hf2
  have Mg := wM.grow st
  by_cases hil : i < M.length
  case neg =>
    obtain rfl : i = M.length := by omega
    have d1 : ((M.length : Int) < (M.length : Int)) = False := eq_false (by omega)
    repeat' (first
      | refine St.h ?_
      | simp (disch := first | omega | (simp only [lnv]; omega)) only [wlk, ↓get_put', ↓reduceIte, seval, f3, f4, f11, f12, f13, d1]
      | (with_reducible (first | apply cd_split | apply gd_split)) <;> (intro hc; (try simp only [hcn] at hc); (try simp only [hc]); (try simp only [hcl] at hc); try omega))
    subst hQ
    rw [hM] at bu
    exact ⟨Ss.buf bu rfl wriC_len (by omega), swn_buf12 bu, st2.trans st⟩
  have d1 : ((i : Int) < (M.length : Int)) = True := eq_true (by omega)
  repeat' (first
    | refine St.h ?_
    | simp (disch := first | omega | (simp only [lnv]; omega)) only [wlk, ↓get_put', ↓reduceIte, seval, f3, f4, f11, f12, f13, d1, Mg.ix, Mg.la, Int.toNat_natCast]
    | (with_reducible (first | apply cd_split | apply gd_split)) <;> (intro hc; (try simp only [hcn] at hc); (try simp only [hc]); (try simp only [hcl] at hc); try omega))
  refine AL.own (by simp) hfg fun g1 t1 _ o1 => ?_
  have hf1 := t1.fl hfg
  repeat' (first
    | refine St.h ?_
    | simp (disch := first | omega | (simp only [lnv]; omega)) only [wlk, ↓get_put', ↓reduceIte, seval, f3, f4, f11, f12, f13]
    | (with_reducible (first | apply cd_split | apply gd_split)) <;> (intro hc; (try simp only [hcn] at hc); (try simp only [hc]); (try simp only [hcl] at hc); try omega))
  refine ST.all o1 rfl rfl (by simp) (by simp) fun g2 o2 t2 => ?_
  have hf2' := t2.fl hf1
  have tt : Stay nowhere g g2 := t1.past' t2 fun q hq => by rw [hq]; exact Nat.le_refl _
  have M2 := Mg.grow tt
  have b2 := bu.grow tt
  have r2 := o2.row
  have hkl := kpK_len M i
  have e1 : ((i : Int) + 1).toNat = i + 1 := by omega
  have go : lasK M i → ∀ t3 : F, get 3 t3 = v2 → get 11 t3 = v2 → get 12 t3 = .i .i64 (M.length : Int) → get 13 t3 = .i .i64 ((i + 1 : Nat) : Int) → ∀ u3 g3, get 4 t3 = u3 → Buf g3 49 3 u3 ((kpK M i ++ [M.getD i default]).flatMap wriC) → (∀ q, isOf u3 q → B.val h2.next ≤ B.val q) → Stay nowhere h2 g3 → LpG I (M.length - i) t3 g3 := fun hk t3 x3 x11 x12 x13 u3 g3 x4 xb xo xs =>
    lp_next hI (M.length - (i + 1)) (by omega) ⟨i + 1, u3, rfl, by omega, x3, x4, x11, x12, x13, by unfold kpK; rw [if_pos hk]; exact xb, xo, xs⟩
  by_cases c1 : i + 1 = M.length
  · have d2 : ((i : Int) + 1 = (M.length : Int)) = True := eq_true (by omega)
    repeat' (first
      | refine St.h ?_
      | simp (disch := first | omega | (simp only [lnv]; omega)) only [wlk, ↓get_put', ↓reduceIte, seval, f3, f4, f11, f12, f13, d2, M2.ln, r2.l1, r2.ln]
      | (with_reducible (first | apply cd_split | apply gd_split)) <;> (intro hc; (try simp only [hcn] at hc); (try simp only [hc]); (try simp only [hcl] at hc); try omega))
    refine AL.own (by simp) hf2' fun g3 t3 _ o3 => ?_
    repeat' (first
      | refine St.h ?_
      | simp (disch := first | omega | (simp only [lnv]; omega)) only [wlk, ↓get_put', ↓reduceIte, seval, f3, f4, f11, f12, f13]
      | (with_reducible (first | apply cd_split | apply gd_split)) <;> (intro hc; (try simp only [hcn] at hc); (try simp only [hc]); (try simp only [hcl] at hc); try omega))
    refine push_w (x := M.getD i default) (b2.grow t3) o3 (by omega) (t3.fl hf2') fun u4 g4 b4 t4 own4 => ?_
    repeat' (first
      | refine St.h ?_
      | simp (disch := first | omega | (simp only [lnv]; omega)) only [wlk, ↓get_put', ↓reduceIte, seval, f3, f4, f11, f12, f13]
      | (with_reducible (first | apply cd_split | apply gd_split)) <;> (intro hc; (try simp only [hcn] at hc); (try simp only [hc]); (try simp only [hcl] at hc); try omega))
    refine go (.inl c1) _ (by simp (disch := first | omega | (simp only [lnv]; omega)) only [wlk, ↓get_put', ↓reduceIte, seval, f3]) (by simp (disch := first | omega | (simp only [lnv]; omega)) only [wlk, ↓get_put', ↓reduceIte, seval, f11]) (by simp (disch := first | omega | (simp only [lnv]; omega)) only [wlk, ↓get_put', ↓reduceIte, seval, f12]) (by simp (disch := first | omega | (simp only [lnv]; omega)) only [wlk, ↓get_put', ↓reduceIte, seval, f13]; rfl) u4 _ (by simp (disch := first | omega | (simp only [lnv]; omega)) only [wlk, ↓get_put', ↓reduceIte, seval]) b4 (fun q hq => ?_) ((st.trans (tt.trans t3)).past' t4 fun q hq => own q hq)
    rcases own4 q hq with h5 | h5
    · exact own q h5
    · exact Nat.le_trans (st.trans (tt.trans t3)).next h5
  have d2 : ((i : Int) + 1 = (M.length : Int)) = False := eq_false (by omega)
  by_cases c2 : (M.getD (i + 1) default).key = (M.getD i default).key
  · repeat' (first
      | refine St.h ?_
      | simp (disch := first | omega | (simp only [lnv]; omega)) only [wlk, ↓get_put', ↓reduceIte, seval, f3, f4, f11, f12, f13, d2, M2.ln, M2.ix, M2.l0, r2.l1, r2.ln, e1, c2]
      | (with_reducible (first | apply cd_split | apply gd_split)) <;> (intro hc; (try simp only [hcn] at hc); (try simp only [hc]); (try simp only [hcl] at hc); try omega))
    have hk : ¬ lasK M i := fun h5 => by
      rcases h5 with h5 | h5
      · exact c1 h5
      · exact h5 c2
    exact lp_next hI (M.length - (i + 1)) (by omega) ⟨i + 1, u, rfl, by omega, by simp (disch := first | omega | (simp only [lnv]; omega)) only [wlk, ↓get_put', ↓reduceIte, seval, f3], by simp (disch := first | omega | (simp only [lnv]; omega)) only [wlk, ↓get_put', ↓reduceIte, seval, f4], by simp (disch := first | omega | (simp only [lnv]; omega)) only [wlk, ↓get_put', ↓reduceIte, seval, f11], by simp (disch := first | omega | (simp only [lnv]; omega)) only [wlk, ↓get_put', ↓reduceIte, seval, f12], by simp (disch := first | omega | (simp only [lnv]; omega)) only [wlk, ↓get_put', ↓reduceIte, seval, f13]; rfl, by unfold kpK; rw [if_neg hk]; exact b2, own, st.trans tt⟩
  · have d3 : ((M.getD (i + 1) default).key = (M.getD i default).key) = False := eq_false c2
    repeat' (first
      | refine St.h ?_
      | simp (disch := first | omega | (simp only [lnv]; omega)) only [wlk, ↓get_put', ↓reduceIte, seval, f3, f4, f11, f12, f13, d2, M2.ln, M2.ix, M2.l0, r2.l1, r2.ln, e1, d3]
      | (with_reducible (first | apply cd_split | apply gd_split)) <;> (intro hc; (try simp only [hcn] at hc); (try simp only [hc]); (try simp only [hcl] at hc); try omega))
    refine AL.own (by simp) hf2' fun g3 t3 _ o3 => ?_
    repeat' (first
      | refine St.h ?_
      | simp (disch := first | omega | (simp only [lnv]; omega)) only [wlk, ↓get_put', ↓reduceIte, seval, f3, f4, f11, f12, f13]
      | (with_reducible (first | apply cd_split | apply gd_split)) <;> (intro hc; (try simp only [hcn] at hc); (try simp only [hc]); (try simp only [hcl] at hc); try omega))
    refine push_w (x := M.getD i default) (b2.grow t3) o3 (by omega) (t3.fl hf2') fun u4 g4 b4 t4 own4 => ?_
    repeat' (first
      | refine St.h ?_
      | simp (disch := first | omega | (simp only [lnv]; omega)) only [wlk, ↓get_put', ↓reduceIte, seval, f3, f4, f11, f12, f13]
      | (with_reducible (first | apply cd_split | apply gd_split)) <;> (intro hc; (try simp only [hcn] at hc); (try simp only [hc]); (try simp only [hcl] at hc); try omega))
    refine go (.inr c2) _ (by simp (disch := first | omega | (simp only [lnv]; omega)) only [wlk, ↓get_put', ↓reduceIte, seval, f3]) (by simp (disch := first | omega | (simp only [lnv]; omega)) only [wlk, ↓get_put', ↓reduceIte, seval, f11]) (by simp (disch := first | omega | (simp only [lnv]; omega)) only [wlk, ↓get_put', ↓reduceIte, seval, f12]) (by simp (disch := first | omega | (simp only [lnv]; omega)) only [wlk, ↓get_put', ↓reduceIte, seval, f13]; rfl) u4 _ (by simp (disch := first | omega | (simp only [lnv]; omega)) only [wlk, ↓get_put', ↓reduceIte, seval]) b4 (fun q hq => ?_) ((st.trans (tt.trans t3)).past' t4 fun q hq => own q hq)
    rcases own4 q hq with h5 | h5
    · exact own q h5
    · exact Nat.le_trans (st.trans (tt.trans t3)).next h5
end
end Go.Proofs.Ythncpgkpkdolfaa

set_option maxRecDepth 1000000
set_option linter.all false
namespace Go.Proofs.Ythncpgkpkdolfaa
open Go Go.Ev
noncomputable abbrev s23_0 : CC := (CC.seq (CC.region [(wB 17 (doMove (tm 1))), (wB 18 (doLenS (tm 17))), (wB 4 (doMove (tm 18))), (wB 5 (doMove (O.c V.x0)))]) CC.ret)
noncomputable abbrev s23_1 : CC := (CC.seq (CC.region [(wB 8 (doMove (tm 0))), (wB 9 (doMove (tm 0))), (wB 10 (doNilCheck (tm 9))), (wB 11 (doFieldAddr 1 (tm 10))), (wB 12 (doLoad (tm 11))), (wB 13 (doMove (tm 1))), (wB 14 (doAppendS 5 (tm 12) (tm 13))), (wB 15 (doNilCheck (tm 8))), (wB 16 (doFieldAddr 1 (tm 15))), (CO.mk G.none D.none Bool.true (CR.mk (doStore 1 (tm 16) (tm 14))))]) s23_0)
noncomputable abbrev s23_2 : CC := (CC.seq (CC.region [(wB 6 (doMove (tm 0))), (wB 7 (doCall 42 [(tm 6)]))]) s23_1)
noncomputable abbrev b23 : CC := (CC.seq (CC.region [(wB 4 (doMove (oN 0))), (wB 5 (doMove (O.c V.x0)))]) s23_2)
theorem c23 : compFn Try.prog 23 = ⟨19, b23, [(Rs.tmp (slOf 4)), (Rs.tmp (slOf 5))]⟩ := by kernel_rfl
noncomputable abbrev s27_0 : CC := (CC.seq (CC.draws [(uB 3 (doMove (tm 0))), (uB 4 (doNilCheck (tm 3))), (uB 5 (doFieldAddr 1 (tm 4))), (uB 6 (doLoad (tm 5))), (uB 7 (doSData (tm 6))), (uB 8 (doMove (tm 0))), (uB 9 (doNilCheck (tm 8))), (uB 10 (doFieldAddr 1 (tm 9))), (uB 11 (doLoad (tm 10))), (uB 12 (doLen (tm 11))), (wB 13 (doUStr 5 (tm 7) (tm 12))), (uB 2 (doMove (tm 13)))]) CC.ret)
noncomputable abbrev b27 : CC := (CC.seq (CC.region [(wB 2 (doMove (O.c (V.s 0 0))))]) s27_0)
theorem c27 : compFn Try.prog 27 = ⟨14, b27, [(Rs.tmp (slOf 2))]⟩ := by kernel_rfl
noncomputable abbrev s42_0 : CC := (CC.region [(wB 7 (doMove (tm 0))), (wB 8 (doMove (tm 0))), (wB 9 (doP2U (tm 8))), (wB 10 (doMove (tm 9))), (wB 11 (doU2P 54 2 (tm 10))), (wB 12 (doNilCheck (tm 7))), (wB 13 (doFieldAddr 0 (tm 12))), (CO.mk G.none D.none Bool.true (CR.mk (doStore 1 (tm 13) (tm 11))))])
noncomputable abbrev s42_1 : CC := (CC.cond (tm 19) CC.bad CC.skip)
noncomputable abbrev s42_2 : CC := (CC.seq (CC.region [(wB 14 (doMove (tm 0))), (wB 15 (doNilCheck (tm 14))), (wB 16 (doFieldAddr 0 (tm 15))), (wB 17 (doLoad (tm 16))), (wB 18 (doMove (tm 0))), (wB 19 (doPtr Bool.true (tm 17) (tm 18)))]) s42_1)
noncomputable abbrev s42_3 : CC := (CC.cond (tm 6) s42_0 s42_2)
noncomputable abbrev b42 : CC := (CC.seq (CC.region [(wB 2 (doMove (tm 0))), (wB 3 (doNilCheck (tm 2))), (wB 4 (doFieldAddr 0 (tm 3))), (wB 5 (doLoad (tm 4))), (wB 6 (doPtr Bool.false (tm 5) (O.c V.p0)))]) s42_3)
theorem c42 : compFn Try.prog 42 = ⟨20, b42, []⟩ := by kernel_rfl
end Go.Proofs.Ythncpgkpkdolfaa

set_option maxRecDepth 100000
set_option maxHeartbeats 8000000
set_option linter.all false
namespace Go.Proofs.Ythncpgkpkdolfaa
open Go Go.Ev
section
variable {h : H} {lo : Nat} {id : B} {U : B → Prop} {a : List UInt8}
theorem copyCheck_ok (s : Sb h lo 54 5 id U a) : FnOk Try.prog 42 [.p id 0 0 2] h fun y h' => Sb h' lo 54 5 id U a ∧ Stay U h h' := by
  obtain ⟨⟨adr, w, o, ha, b, hw, hn⟩, hself, hlo⟩ := s
  refine fn_go c42 (by intro hb; cases hb) (by simp) (by simp) fun Q hQ => ?_
  simp only [slotsF, Nat.reduceAdd]
  have or := o.own.row
  rcases ha with rfl | rfl
  · repeat' (first
      | refine St.h ?_
      | simp (disch := first | omega | (simp only [lnv]; omega)) only [wlk, ↓get_put', ↓reduceIte, seval, or.l1, or_ptr, h2_ptr00, h2_ptr01, h2_ptr10, h2_ptr11, or_p2u, or_u2p, o.pu, o.up]
      | (with_reducible (first | apply cd_split | apply gd_split)) <;> (intro hc; (try simp only [hcn] at hc); (try simp only [hc]); (try simp only [hcl] at hc); try omega))
    refine ST.ownE (y := .p id 0 0 2) o rfl rfl (by omega) (by omega) fun h' o' s' => ?_
    repeat' (first
      | refine St.h ?_
      | simp (disch := first | omega | (simp only [lnv]; omega)) only [wlk, ↓get_put', ↓reduceIte, seval]
      | (with_reducible (first | apply cd_split | apply gd_split)) <;> (intro hc; (try simp only [hcn] at hc); (try simp only [hc]); (try simp only [hcl] at hc); try omega))
    subst hQ
    exact ⟨⟨⟨.p id 0 0 2, w, o', .inr rfl, b.stay s' (fun i hi e => hn (by rw [← e]; exact hi)), hw, hn⟩, hself, fun i hi => ⟨(hlo i hi).1, Nat.lt_of_lt_of_le (hlo i hi).2 s'.next⟩⟩, s'.mono fun i _ hi => by rw [hi]; exact hself⟩
  · repeat' (first
      | refine St.h ?_
      | simp (disch := first | omega | (simp only [lnv]; omega)) only [wlk, ↓get_put', ↓reduceIte, seval, or.l1, or_ptr, h2_ptr00, h2_ptr01, h2_ptr10, h2_ptr11]
      | (with_reducible (first | apply cd_split | apply gd_split)) <;> (intro hc; (try simp only [hcn] at hc); (try simp only [hc]); (try simp only [hcl] at hc); try omega))
    subst hQ
    exact ⟨⟨⟨.p id 0 0 2, w, o, .inr rfl, b, hw, hn⟩, hself, hlo⟩, Stay.refl _ _⟩
theorem bld_end {h h1 h2 h3 : H} {w w' adr : V} {c : List UInt8} (hself : U id) (hlo : ∀ i, U i → lo ≤ B.val i ∧ B.val i < B.val h1.next) (hw : ∀ i, isOf w i → U i) (hn : ¬ isOf w id) (hidlt : B.val id < B.val h1.next)
    (ha : adr = .p0 ∨ adr = .p id 0 0 2) (st1 : Stay U h h1) (b2 : Buf h2 5 1 w' ((a ++ c).map bv)) (st2 : Stay (isOf w) h1 h2) (hw2 : ∀ i, isOf w' i → isOf w i ∨ B.val h1.next ≤ B.val i) (o3 : OwnE h3 id 54 [adr, w']) (st3 : Stay (fun i => i = id) h2 h3) :
    ∃ U', Sb h3 lo 54 5 id U' (a ++ c) ∧ Stay U h h3 ∧ ∀ i, U' i → U i ∨ B.val h.next ≤ B.val i := by
  have hn2 : ¬ isOf w' id := fun e => by
    rcases hw2 _ e with h7 | h7
    · exact hn h7
    · omega
  have hlo0 := (hlo _ hself).1
  refine ⟨fun i => U i ∨ isOf w' i, ⟨⟨adr, w', o3, ha, b2.stay st3 (fun i hi e => hn2 (by rw [← e]; exact hi)), fun i hi => .inr hi, hn2⟩, .inl hself, ?_⟩, ?_, ?_⟩
  · have n2 := st2.next
    have n3 := st3.next
    rintro i (hi | hi)
    · have := hlo i hi; omega
    · have h8 := b2.own hi
      rcases hw2 _ hi with h7 | h7
      · have := hlo i (hw i h7); omega
      · omega
  · exact (st1.trans (st2.mono fun i _ hi => hw i hi)).trans (st3.mono fun i _ hi => by rw [hi]; exact hself)
  · have n1 := st1.next
    rintro i (hi | hi)
    · exact .inl hi
    · rcases hw2 _ hi with h7 | h7
      · exact .inl (hw i h7)
      · exact .inr (by omega)
theorem writeString_ok {c : List UInt8} (s : Sb h lo 54 5 id U a) (hl : a.length + c.length ≤ 1048576) (hf : B.val h.floor ≤ B.val h.next) : FnOk Try.prog 23 [.p id 0 0 2, sv c] h fun y h' => ∃ U', Sb h' lo 54 5 id U' (a ++ c) ∧ Stay U h h' ∧ ∀ i, U' i → U i ∨ B.val h.next ≤ B.val i := by
  refine fn_go c23 (by intro hb; cases hb) (by simp) (by simp) fun Q hQ => ?_
  simp only [slotsF, Nat.reduceAdd]
  repeat' (first
    | refine St.h ?_
    | simp (disch := first | omega | (simp only [lnv]; omega)) only [wlk, ↓get_put', ↓reduceIte, seval]
    | (with_reducible (first | apply cd_split | apply gd_split)) <;> (intro hc; (try simp only [hcn] at hc); (try simp only [hc]); (try simp only [hcl] at hc); try omega))
  refine CL.mk (copyCheck_ok s) ?_
  rintro _ h1 ⟨⟨⟨adr, w, o, ha, b, hw, hn⟩, hself, hlo⟩, st1⟩
  have or := o.own.row
  repeat' (first
    | refine St.h ?_
    | simp (disch := first | omega | (simp only [lnv]; omega)) only [wlk, ↓get_put', ↓reduceIte, seval, or.l1]
    | (with_reducible (first | apply cd_split | apply gd_split)) <;> (intro hc; (try simp only [hcn] at hc); (try simp only [hc]); (try simp only [hcl] at hc); try omega))
  refine AS.buf b (st1.fl hf) hl fun w' h2 b2 st2 hw2 tp => ?_
  have o2 := o.stay st2 hn
  obtain ⟨c1, c2, _⟩ := buf_cells b2
  repeat' (first
    | refine St.h ?_
    | simp (disch := first | omega | (simp only [lnv]; omega)) only [wlk, ↓get_put', ↓reduceIte, seval]
    | (with_reducible (first | apply cd_split | apply gd_split)) <;> (intro hc; (try simp only [hcn] at hc); (try simp only [hc]); (try simp only [hcl] at hc); try omega))
  refine ST.ownE o2 c1 c2 (by omega) (by omega) fun h3 o3 st3 => ?_
  repeat' (first
    | refine St.h ?_
    | simp (disch := first | omega | (simp only [lnv]; omega)) only [wlk, ↓get_put', ↓reduceIte, seval]
    | (with_reducible (first | apply cd_split | apply gd_split)) <;> (intro hc; (try simp only [hcn] at hc); (try simp only [hc]); (try simp only [hcl] at hc); try omega))
  subst hQ
  exact bld_end hself hlo hw hn o.lt ha st1 b2 st2 hw2 o3 st3
theorem string_ok (s : Sb h lo 54 5 id U a) (hl : a.length ≤ 1048576) : FnOk Try.prog 27 [.p id 0 0 2] h fun y h' => y = sv a ∧ Stay U h h' := by
  refine fn_go c27 (by intro hb; cases hb) (by simp) (by simp) fun Q hQ => ?_
  simp only [slotsF, Nat.reduceAdd]
  obtain ⟨⟨adr, w, o, ha, b, hw, hn⟩, hself, hlo⟩ := s
  have or := o.own.row
  have hln := fun g N => b.lst.ln (P := Try.prog) (h := g) (N := N)
  rw [List.length_map] at hln
  obtain ⟨pv, hpv1, hpv2⟩ : ∃ pv : V, (∀ g N, H1 Try.prog gSData w g N = N.go Try.prog pv g) ∧ ∀ k : V → Bool, (vL w (fun _ => k .p0) fun id g off len fin _ => k (.p id g off fin)) = k pv := by
    rcases b with ⟨rfl, _⟩ | ⟨i, g, n, blk, rfl, b1, _⟩
    · exact ⟨.p0, fun g N => hv_of fun k => rfl, fun k => rfl⟩
    · refine ⟨.p i g 0 _, fun g N => hv_of fun k => ?_, fun k => rfl⟩
      have : Nat.ble 1 n = true := by rw [Nat.ble_eq]; exact b1
      show (ifK (Nat.ble 1 n) fun _ => k (.p i _ 0 _)) = _
      rw [this, ifK_true]
  repeat' (first
    | refine St.h ?_
    | simp (disch := first | omega | (simp only [lnv]; omega)) only [wlk, ↓get_put', ↓reduceIte, seval, or.l1, or_sdata, hpv1, hln, or_ustr]
    | (with_reducible (first | apply cd_split | apply gd_split)) <;> (intro hc; (try simp only [hcn] at hc); (try simp only [hc]); (try simp only [hcl] at hc); try omega))
  obtain ⟨h', e', st'⟩ := ustr_eq b hl (fun _ _ _ _ => false) F.zero (.c pv) (.c (.i .i64 (a.length : Int))) hpv2 rfl
  refine US.of (v := sv a) (h' := h') (fun k => ?_) ?_
  · have := e' k
    simp only [doUStr, oE_eq] at this
    exact this
  repeat' (first
    | refine St.h ?_
    | simp (disch := first | omega | (simp only [lnv]; omega)) only [wlk, ↓get_put', ↓reduceIte, seval]
    | (with_reducible (first | apply cd_split | apply gd_split)) <;> (intro hc; (try simp only [hcn] at hc); (try simp only [hc]); (try simp only [hcl] at hc); try omega))
  subst hQ
  exact ⟨rfl, st'.mono fun i _ hi => hw i hi⟩
end
end Go.Proofs.Ythncpgkpkdolfaa

set_option linter.all false
namespace Go.Ev
open Go
theorem CPS.own {P : Program} {h : H} {N : Nx} {id : B} {el fin : Nat} {xs : List V} {s : List UInt8} {cap : Option Nat} (o : OwnE h id el xs) (hne : 1 ≤ s.length) (hj : s.length ≤ fin) (hfit : s.length < 2 ^ 37)
    (k : ∀ h', OwnE h' id el (s.map bv) → Stay (fun i => i = id) h h' → N.go P (.i .i64 (s.length : Int)) h') : CPS P (.l id 0 0 s.length fin cap) (sv s) h N := by
  obtain ⟨blk, a1, a2, a3, a4, aE, a5, a6, a7⟩ := o
  obtain ⟨next, floor, heap⟩ := h
  obtain ⟨cur, min, sz, cs, bel, fr⟩ := blk
  simp only at a2 a3 a4 aE a7
  subst a2; subst a3; subst a4; subst aE
  have hvl : (s.map bv).length = s.length := List.length_map _
  obtain ⟨tr, t1, t2, t3⟩ := setList_fine (s.map bv) 0 cs (by omega)
  obtain ⟨hp, s1, s2, s3⟩ := setK_ok id (⟨0, 0, sz, tr, bel, 0⟩ : Blk) heap
  have e1 : B.geB floor id = true := by cases floor <;> first | rfl | (show Nat.ble _ _ = true; rw [Nat.ble_eq]; exact a5)
  have e2 : Nat.ble (Nat.add 0 (s.map bv).length) fin = true := by rw [Nat.ble_eq]; show 0 + (s.map bv).length ≤ fin; omega
  have e4 : frOk 0 0 = true := rfl
  have e5 : Nat.beq 0 0 = true := rfl
  have e6 : Nat.ble 0 0 = true := rfl
  have a1' : heap.get id = some ⟨0, 0, sz, cs, bel, 0⟩ := a1
  refine hm_of (v := .i .i64 (s.length : Int)) (h' := ⟨next, floor, hp⟩) (fun q => ?_) (k _ ⟨_, s2, rfl, rfl, rfl, rfl, a5, a6, fun i z hz => by have := t2 i z hz; rwa [Nat.zero_add] at this⟩ ⟨rfl, Nat.le_refl _, fun i _ hi => s3 i hi⟩)
  show natC s.length (fun _ => false) (fun _ => copyToS (sv s) ⟨next, floor, heap⟩ q id 0 0 s.length fin) = _
  obtain ⟨m, hm⟩ : ∃ m, s.length = m + 1 := ⟨s.length - 1, by omega⟩
  have hc : ∀ (z : Unit → Bool) (f : Nat → Bool), natC s.length z f = f (m + 1) := fun z f => by rw [hm]; rfl
  rw [hc]
  unfold copyToS
  show unpK s.length (pk s) [] (fun vs => ifK (Nat.beq s.length s.length) fun _ => store ⟨next, floor, heap⟩ id 0 0 fin vs fun h => q (.i .i64 (.ofNat s.length)) h) = _
  rw [unpK_map _ _ _ _ rfl, List.append_nil, Nat.beq_refl, ifK_true]
  simp only [store, hK_mk, a1', optK_some, blkK_mk, e5, e6, e1, e2, allOne_bv, e4, ifK_true]
  rw [t1, s1]; rfl
theorem US.own {P : Program} {h : H} {N : Nx} {id : B} {el fin : Nat} {a : List UInt8} (o : OwnE h id el (a.map bv)) (hne : 1 ≤ a.length) (hj : a.length ≤ fin) (hl : a.length ≤ 1048576)
    (k : ∀ h', Stay (fun i => i = id) h h' → N.go P (sv a) h') : US P el (.p id 0 0 fin) (.i .i64 (a.length : Int)) h N := by
  have hrow : Row h id 0 0 (a.map bv) := o.own.row
  obtain ⟨blk, a1, a2, a3, a4, aE, a5, a6, a7⟩ := o
  have hld : ∀ k, loadN h id 0 0 fin a.length k = k (a.map bv) := fun k => by
    have := loadN_row (n := (a.map bv).length) (fin := fin) hrow rfl (by intro h0; have := congrArg List.length h0; simp at this; subst this; simp at hne) (by rw [List.length_map]; omega) k
    rwa [List.length_map] at this
  obtain ⟨next, floor, heap⟩ := h
  obtain ⟨cur, min, sz, cells, bel, fr⟩ := blk
  simp only at a2 a3 a4 aE a7
  subst a2; subst a3; subst a4; subst aE
  obtain ⟨hp, s1, s2, s3⟩ := setK_ok id (⟨0, 0, sz, cells, bel, a.length + 2⟩ : Blk) heap
  have a1' : heap.get id = some ⟨0, 0, sz, cells, bel, 0⟩ := a1
  have g2 : Nat.beq bel bel = true := Nat.beq_refl bel
  have g3 : B.geB floor id = true := by cases floor <;> first | rfl | (show Nat.ble _ _ = true; rw [Nat.ble_eq]; exact a5)
  have g4 : Nat.ble 1 a.length = true := by rw [Nat.ble_eq]; exact hne
  have g5 : Nat.ble a.length 1048576 = true := by rw [Nat.ble_eq]; exact hl
  have g6 : Nat.beq 0 0 = true := rfl
  have g7 : Nat.ble 0 0 = true := rfl
  refine US.of (v := sv a) (h' := ⟨next, floor, hp⟩) (fun q => ?_) (k _ ⟨rfl, Nat.le_refl _, fun i _ hi => s3 i hi⟩)
  simp only [vI_i, kdEq_self, ifK_true, natK_cast, vPZ_p]
  unfold uStrK
  rw [g6, ifK_true, g4, ifK_true, g5, ifK_true]
  simp only [elK, hK_mk, a1', optK_some, blkK_mk, g7, g2, ifK_true]
  rw [hld, pack_bv]
  have e0 : 0 * 256 ^ a.length + pk a = pk a := by rw [Nat.zero_mul, Nat.zero_add]
  rw [e0]
  simp only [freezeK, hK_mk, a1', optK_some, blkK_mk, g3, ifK_true]
  show fN (Nat.add a.length 2) (fun fr' => T.setK id ⟨0, 0, sz, cells, bel, fr'⟩ heap fun heap => q (.s a.length (pk a)) ⟨next, floor, heap⟩) = _
  rw [fN_eq]
  exact s1 _
end Go.Ev

set_option maxRecDepth 1000000
namespace Go.Proofs.Ythncpgkpkdolfaa.ravelinlaw12
open Go.Ev
theorem known_run : runFn noTb Try.prog 1000 7 [] = true := by kernel_rfl
theorem known_pure : PureTrue Try.prog 7 := pure_of (noTb_ok _) (Checked.mixed Try.checked) known_run
end Go.Proofs.Ythncpgkpkdolfaa.ravelinlaw12

set_option maxRecDepth 100000
set_option maxHeartbeats 8000000
set_option linter.all false
namespace Go.Proofs.Ythncpgkpkdolfaa
open Go Go.Ev
theorem known12 {h : H} : FnOk Try.prog 7 [] h fun y h' => y = .b true ∧ h' = h := FnOk.of_pure ravelinlaw12.known_pure h
theorem bis_ok {h : H} {v : V} {L : List Wri} (hL : Ws h v L) (hl : L.length ≤ 10000) (hf : B.val h.floor ≤ B.val h.next) : FnOk Try.prog 15 [v] h fun y h' => y = .b (isB L) ∧ Stay nowhere h h' := by
  refine fn_go c15 (by intro hb; cases hb) (by simp) (by simp) fun Q hQ => ?_
  simp only [slotsF, Nat.reduceAdd]
  by_cases h8 : 8 < L.length
  · have d1 : ((8 : Int) < (L.length : Int)) = True := eq_true (by omega)
    repeat' (first
      | refine St.h ?_
      | simp (disch := first | omega | (simp only [lnv]; omega)) only [wlk, ↓get_put', ↓reduceIte, seval, hL.ln, d1]
      | (with_reducible (first | apply cd_split | apply gd_split)) <;> (intro hc; (try simp only [hcn] at hc); (try simp only [hc]); (try simp only [hcl] at hc); try omega))
    subst hQ
    exact ⟨by unfold isB; rw [decide_eq_false (by omega), Bool.and_false], Stay.refl _ _⟩
  have d1 : ((8 : Int) < (L.length : Int)) = False := eq_false (by omega)
  repeat' (first
    | refine St.h ?_
    | simp (disch := first | omega | (simp only [lnv]; omega)) only [wlk, ↓get_put', ↓reduceIte, seval, hL.ln, d1]
    | (with_reducible (first | apply cd_split | apply gd_split)) <;> (intro hc; (try simp only [hcn] at hc); (try simp only [hc]); (try simp only [hcl] at hc); try omega))
  refine Ok.lp (fun m t g => ∃ j : Nat, m = L.length - j ∧ j ≤ L.length ∧ Stay nowhere h g ∧ upU L j = true ∧ get 0 t = v ∧ get 8 t = v ∧ get 9 t = .i .i64 (L.length : Int) ∧ get 10 t = .i .i64 (j : Int)) L.length ?_ ?_
  · simp (disch := first | omega | (simp only [lnv]; omega)) only [wlk, ↓get_put', ↓reduceIte, seval]
    refine ⟨0, by omega, by omega, Stay.refl _ _, rfl, ?_⟩
    repeat' (first | trivial | rfl | refine And.intro ?_ ?_)
  rintro I hI m t g ⟨j, rfl, hj, st, hs, f0, f8, f9, f10⟩
  have hLg := hL.grow st
  have hfg := st.fl hf
  by_cases hjl : j < L.length
  case neg =>
    obtain rfl : j = L.length := by omega
    have d2 : ((L.length : Int) < (L.length : Int)) = False := eq_false (by omega)
    repeat' (first
      | refine St.h ?_
      | simp (disch := first | omega | (simp only [lnv]; omega)) only [wlk, ↓get_put', ↓reduceIte, seval, f0, f8, f9, f10, d2]
      | (with_reducible (first | apply cd_split | apply gd_split)) <;> (intro hc; (try simp only [hcn] at hc); (try simp only [hc]); (try simp only [hcl] at hc); try omega))
    subst hQ
    exact ⟨by unfold isB; rw [hs, decide_eq_true (by omega)]; rfl, st⟩
  have d2 : ((j : Int) < (L.length : Int)) = True := eq_true (by omega)
  repeat' (first
    | refine St.h ?_
    | simp (disch := first | omega | (simp only [lnv]; omega)) only [wlk, ↓get_put', ↓reduceIte, seval, f0, f8, f9, f10, d2, hLg.ix, hLg.la, Int.toNat_natCast]
    | (with_reducible (first | apply cd_split | apply gd_split)) <;> (intro hc; (try simp only [hcn] at hc); (try simp only [hc]); (try simp only [hcl] at hc); try omega))
  refine AL.own (by simp) hfg fun g1 t1 _ o1 => ?_
  have hf1 := t1.fl hfg
  repeat' (first
    | refine St.h ?_
    | simp (disch := first | omega | (simp only [lnv]; omega)) only [wlk, ↓get_put', ↓reduceIte, seval, f0, f8, f9, f10]
    | (with_reducible (first | apply cd_split | apply gd_split)) <;> (intro hc; (try simp only [hcn] at hc); (try simp only [hc]); (try simp only [hcl] at hc); try omega))
  refine ST.all o1 rfl rfl (by simp) (by simp) fun g2 o2 t2 => ?_
  have hf2 := t2.fl hf1
  have tt : Stay nowhere g g2 := t1.past' t2 fun q hq => by rw [hq]; exact Nat.le_refl _
  have r2 := o2.row
  repeat' (first
    | refine St.h ?_
    | simp (disch := first | omega | (simp only [lnv]; omega)) only [wlk, ↓get_put', ↓reduceIte, seval, f0, f8, f9, f10, r2.ln]
    | (with_reducible (first | apply cd_split | apply gd_split)) <;> (intro hc; (try simp only [hcn] at hc); (try simp only [hc]); (try simp only [hcl] at hc); try omega))
  refine CL.stay (isWrite_ok hf2) fun g3 t3 => ?_
  have t4 := tt.trans t3
  have L3 := hLg.grow t4
  have o3 := o2.stay t3 fun h => h
  have r3 := o3.row
  have st3 := st.trans t4
  cases hw : isW (L.getD j default).key (L.getD j default).del (L.getD j default).val with
  | false =>
    have hn : isB L = false := upU_no hjl (by unfold upA isR; rw [hw]; rfl)
    repeat' (first
      | refine St.h ?_
      | simp (disch := first | omega | (simp only [lnv]; omega)) only [wlk, ↓get_put', ↓reduceIte, seval, f0, f8, f9, f10]
      | (with_reducible (first | apply cd_split | apply gd_split)) <;> (intro hc; (try simp only [hcn] at hc); (try simp only [hc]); (try simp only [hcl] at hc); try omega))
    subst hQ
    exact ⟨by rw [hn], st3⟩
  | true =>
  by_cases h0 : j = 0
  · have hu : upA L j = true := by unfold upA isR; rw [hw, decide_eq_true h0]; rfl
    have hz : ((0 : Int) < (j : Int)) = False := eq_false (by omega)
    repeat' (first
      | refine St.h ?_
      | simp (disch := first | omega | (simp only [lnv]; omega)) only [wlk, ↓get_put', ↓reduceIte, seval, f0, f8, f9, f10, hz]
      | (with_reducible (first | apply cd_split | apply gd_split)) <;> (intro hc; (try simp only [hcn] at hc); (try simp only [hc]); (try simp only [hcl] at hc); try omega))
    refine lp_next hI (L.length - (j + 1)) (by omega) ⟨j + 1, rfl, by omega, st3, by rw [upU_succ, hs, hu]; rfl, by simp (disch := first | omega | (simp only [lnv]; omega)) only [wlk, ↓get_put', ↓reduceIte, seval, f0], by simp (disch := first | omega | (simp only [lnv]; omega)) only [wlk, ↓get_put', ↓reduceIte, seval, f8], by simp (disch := first | omega | (simp only [lnv]; omega)) only [wlk, ↓get_put', ↓reduceIte, seval, f9], by simp (disch := first | omega | (simp only [lnv]; omega)) only [wlk, ↓get_put', ↓reduceIte, seval, f10]; rfl⟩
  · have ek : ((j : Int) - 1).toNat = j - 1 := by omega
    have hz : ((0 : Int) < (j : Int)) = True := eq_true (by omega)
    have hu : upA L j = Op.bytesLess (L.getD (j - 1) default).key (L.getD j default).key := by unfold upA isR; rw [hw, decide_eq_false h0]; rfl
    cases hk : Op.bytesLess (L.getD (j - 1) default).key (L.getD j default).key with
    | false =>
      have hn : isB L = false := upU_no hjl (by rw [hu, hk])
      repeat' (first
        | refine St.h ?_
        | simp (disch := first | omega | (simp only [lnv]; omega)) only [wlk, ↓get_put', ↓reduceIte, seval, f0, f8, f9, f10, hz, ek, L3.ix, L3.l0, r3.l1, hk]
        | (with_reducible (first | apply cd_split | apply gd_split)) <;> (intro hc; (try simp only [hcn] at hc); (try simp only [hc]); (try simp only [hcl] at hc); try omega))
      subst hQ
      exact ⟨by rw [hn], st3⟩
    | true =>
      repeat' (first
        | refine St.h ?_
        | simp (disch := first | omega | (simp only [lnv]; omega)) only [wlk, ↓get_put', ↓reduceIte, seval, f0, f8, f9, f10, hz, ek, L3.ix, L3.l0, r3.l1, hk]
        | (with_reducible (first | apply cd_split | apply gd_split)) <;> (intro hc; (try simp only [hcn] at hc); (try simp only [hc]); (try simp only [hcl] at hc); try omega))
      refine lp_next hI (L.length - (j + 1)) (by omega) ⟨j + 1, rfl, by omega, st3, by rw [upU_succ, hs, hu, hk]; rfl, by simp (disch := first | omega | (simp only [lnv]; omega)) only [wlk, ↓get_put', ↓reduceIte, seval, f0], by simp (disch := first | omega | (simp only [lnv]; omega)) only [wlk, ↓get_put', ↓reduceIte, seval, f8], by simp (disch := first | omega | (simp only [lnv]; omega)) only [wlk, ↓get_put', ↓reduceIte, seval, f9], by simp (disch := first | omega | (simp only [lnv]; omega)) only [wlk, ↓get_put', ↓reduceIte, seval, f10]; rfl⟩
theorem blay_ok {h : H} {w : Wri} (hk : w.key.length ≤ 1000) (hv : w.val.length ≤ 1000) (hf : B.val h.floor ≤ B.val h.next) : FnOk Try.prog 25 [.a [sv w.key, .b w.del, sv w.val]] h fun y h' => y = sv (oneB w) ∧ Stay nowhere h h' := by
  have l1 := textB_len w.key (by omega)
  have l2 := textB_len w.val (by omega)
  refine fn_go c25 (by intro hb; cases hb) (by simp) (by simp) fun Q hQ => ?_
  simp only [slotsF, Nat.reduceAdd]
  repeat' (first
    | refine St.h ?_
    | simp (disch := first | omega | (simp only [lnv]; omega)) only [wlk, ↓get_put', ↓reduceIte, seval]
    | (with_reducible (first | apply cd_split | apply gd_split)) <;> (intro hc; (try simp only [hcn] at hc); (try simp only [hc]); (try simp only [hcl] at hc); try omega))
  refine AL.own (by simp) hf fun h1 s1 n1 o1 => ?_
  have hf1 := s1.fl hf
  cases hd : w.del with
  | true =>
    have hb : oneB w = textB w.key ++ [1] := by unfold oneB; rw [hd]; rfl
    repeat' (first
      | refine St.h ?_
      | simp (disch := first | omega | (simp only [lnv]; omega)) only [wlk, ↓get_put', ↓reduceIte, seval, o1.row.l1, hd]
      | (with_reducible (first | apply cd_split | apply gd_split)) <;> (intro hc; (try simp only [hcn] at hc); (try simp only [hc]); (try simp only [hcl] at hc); try omega))
    refine CL.stayU (text_ok (by omega) (re_fl _)) fun h3 s3 => ?_
    have hf3 := s3.fl hf1
    repeat' (first
      | refine St.h ?_
      | simp (disch := first | omega | (simp only [lnv]; omega)) only [wlk, ↓get_put', ↓reduceIte, seval]
      | (with_reducible (first | apply cd_split | apply gd_split)) <;> (intro hc; (try simp only [hcn] at hc); (try simp only [hc]); (try simp only [hcl] at hc); try omega))
    refine AL.strU (bs := [1]) rfl (by simp) rfl rfl (by simp) hf3 fun h5 u5 s5 => ?_
    repeat' (first
      | refine St.h ?_
      | simp (disch := first | omega | (simp only [lnv]; omega)) only [wlk, ↓get_put', ↓reduceIte, seval]
      | (with_reducible (first | apply cd_split | apply gd_split)) <;> (intro hc; (try simp only [hcn] at hc); (try simp only [hc]); (try simp only [hcl] at hc); try omega))
    subst hQ
    exact ⟨by rw [hb], (s1.trans s3).trans s5⟩
  | false =>
    have hb : oneB w = textB w.key ++ 0 :: textB w.val := by unfold oneB; rw [hd]; rfl
    repeat' (first
      | refine St.h ?_
      | simp (disch := first | omega | (simp only [lnv]; omega)) only [wlk, ↓get_put', ↓reduceIte, seval, o1.row.l1, hd]
      | (with_reducible (first | apply cd_split | apply gd_split)) <;> (intro hc; (try simp only [hcn] at hc); (try simp only [hc]); (try simp only [hcl] at hc); try omega))
    refine CL.stayU (text_ok (by omega) (re_fl _)) fun h3 s3 => ?_
    have o3 := o1.stay s3 fun h => h
    have hf3 := s3.fl hf1
    repeat' (first
      | refine St.h ?_
      | simp (disch := first | omega | (simp only [lnv]; omega)) only [wlk, ↓get_put', ↓reduceIte, seval]
      | (with_reducible (first | apply cd_split | apply gd_split)) <;> (intro hc; (try simp only [hcn] at hc); (try simp only [hc]); (try simp only [hcl] at hc); try omega))
    refine AL.strU (bs := [0]) rfl (by simp) rfl rfl (by simp) hf3 fun h5 u5 s5 => ?_
    have o5 := o3.stay s5 fun h => h
    have hf5 := s5.fl hf3
    repeat' (first
      | refine St.h ?_
      | simp (disch := first | omega | (simp only [lnv]; omega)) only [wlk, ↓get_put', ↓reduceIte, seval, o5.row.l1]
      | (with_reducible (first | apply cd_split | apply gd_split)) <;> (intro hc; (try simp only [hcn] at hc); (try simp only [hc]); (try simp only [hcl] at hc); try omega))
    refine CL.stayU (text_ok (by omega) (re_fl _)) fun h6 s6 => ?_
    repeat' (first
      | refine St.h ?_
      | simp (disch := first | omega | (simp only [lnv]; omega)) only [wlk, ↓get_put', ↓reduceIte, seval]
      | (with_reducible (first | apply cd_split | apply gd_split)) <;> (intro hc; (try simp only [hcn] at hc); (try simp only [hc]); (try simp only [hcl] at hc); try omega))
    subst hQ
    exact ⟨by rw [hb]; simp, ((s1.trans s3).trans s5).trans s6⟩
theorem bbytes_ok {h : H} {v : V} {seq : Int} {L : List Wri} (hL : Ws h v L) (hl : L.length ≤ 10000) (hs : -9223372036854775808 ≤ seq) (hs2 : seq ≤ 9223372036854775807) (hf : B.val h.floor ≤ B.val h.next) : FnOk Try.prog 9 [.i .i64 seq, v] h fun y h' => y = .tu [sv (bytB seq L).1, .i .i64 (bytB seq L).2] ∧ Stay nowhere h h' := by
  refine fn_go c9 (by intro hb; cases hb) (by simp) (by simp) fun Q hQ => ?_
  simp only [slotsF, Nat.reduceAdd]
  repeat' (first
    | refine St.h ?_
    | simp (disch := first | omega | (simp only [lnv]; omega)) only [wlk, ↓get_put', ↓reduceIte, seval]
    | (with_reducible (first | apply cd_split | apply gd_split)) <;> (intro hc; (try simp only [hcn] at hc); (try simp only [hc]); (try simp only [hcl] at hc); try omega))
  refine CL.stay (bis_ok hL hl hf) fun h1 s1 => ?_
  have hf1 := s1.fl hf
  have hL1 := hL.grow s1
  have hno : okB12 seq L = false → bytB seq L = ([], 10) := fun e => by unfold bytB; rw [e]; rfl
  cases hB : isB L with
  | false =>
    have e := hno (by unfold okB12; rw [hB]; rfl)
    repeat' (first
      | refine St.h ?_
      | simp (disch := first | omega | (simp only [lnv]; omega)) only [wlk, ↓get_put', ↓reduceIte, seval]
      | (with_reducible (first | apply cd_split | apply gd_split)) <;> (intro hc; (try simp only [hcn] at hc); (try simp only [hc]); (try simp only [hcl] at hc); try omega))
    subst hQ
    exact ⟨by rw [e], s1⟩
  | true =>
  by_cases q1 : seq < 1
  · have e := hno (by unfold okB12; rw [hB, decide_eq_false (by omega)]; rfl)
    repeat' (first
      | refine St.h ?_
      | simp (disch := first | omega | (simp only [lnv]; omega)) only [wlk, ↓get_put', ↓reduceIte, seval]
      | (with_reducible (first | apply cd_split | apply gd_split)) <;> (intro hc; (try simp only [hcn] at hc); (try simp only [hc]); (try simp only [hcl] at hc); try omega))
    subst hQ
    exact ⟨by rw [e], s1⟩
  by_cases q2 : 1000000 < seq
  · have e := hno (by unfold okB12; rw [hB, decide_eq_false (by omega)]; rfl)
    repeat' (first
      | refine St.h ?_
      | simp (disch := first | omega | (simp only [lnv]; omega)) only [wlk, ↓get_put', ↓reduceIte, seval]
      | (with_reducible (first | apply cd_split | apply gd_split)) <;> (intro hc; (try simp only [hcn] at hc); (try simp only [hc]); (try simp only [hcl] at hc); try omega))
    subst hQ
    exact ⟨by rw [e], s1⟩
  have e : bytB seq L = (batB seq L, 0) := by unfold bytB okB12; rw [hB, decide_eq_true (by omega)]; rfl
  have ln := numB_len (n := seq.toNat) (by omega)
  have ln2 := numB_len (n := L.length) (by omega)
  have lr := rowsB_len hB
  have en : ((L.length : Int)).toNat = L.length := by omega
  repeat' (first
    | refine St.h ?_
    | simp (disch := first | omega | (simp only [lnv]; omega)) only [wlk, ↓get_put', ↓reduceIte, seval]
    | (with_reducible (first | apply cd_split | apply gd_split)) <;> (intro hc; (try simp only [hcn] at hc); (try simp only [hc]); (try simp only [hcl] at hc); try omega))
  refine AL.ownE (by simp) hf1 fun h2 s2 n2 o2 => ?_
  have hf2 := s2.fl hf1
  have sb : Sb h2 (B.val h1.next) 54 5 h1.next (fun i => i = h1.next) [] :=
    ⟨⟨.p0, .l0, o2, .inl rfl, Buf.nil _ _ _, fun i hi => absurd hi (by rintro ⟨_, _, _, _, _, e⟩; cases e), by rintro ⟨_, _, _, _, _, e⟩; cases e⟩, rfl, fun i hi => by rw [hi]; exact ⟨Nat.le_refl _, by omega⟩⟩
  repeat' (first
    | refine St.h ?_
    | simp (disch := first | omega | (simp only [lnv]; omega)) only [wlk, ↓get_put', ↓reduceIte, seval]
    | (with_reducible (first | apply cd_split | apply gd_split)) <;> (intro hc; (try simp only [hcn] at hc); (try simp only [hc]); (try simp only [hcl] at hc); try omega))
  refine CL.stay (num_ok (by omega) hf2) fun h3 s3 => ?_
  have hf3 := s3.fl hf2
  have sb3 := sb.stay s3 fun _ _ h => h
  have a3 := s2.trans s3
  repeat' (first
    | refine St.h ?_
    | simp (disch := first | omega | (simp only [lnv]; omega)) only [wlk, ↓get_put', ↓reduceIte, seval]
    | (with_reducible (first | apply cd_split | apply gd_split)) <;> (intro hc; (try simp only [hcn] at hc); (try simp only [hc]); (try simp only [hcl] at hc); try omega))
  refine CL.mk (writeString_ok sb3 (by simp; omega) hf3) ?_
  rintro _ h4 ⟨U4, sb4, s4, hU4⟩
  have hf4 := s4.fl hf3
  have a4 := a3.past' s4 fun q hq => (sb3.lo q hq).1
  have hL4 := hL1.grow a4
  repeat' (first
    | refine St.h ?_
    | simp (disch := first | omega | (simp only [lnv]; omega)) only [wlk, ↓get_put', ↓reduceIte, seval, hL4.ln]
    | (with_reducible (first | apply cd_split | apply gd_split)) <;> (intro hc; (try simp only [hcn] at hc); (try simp only [hc]); (try simp only [hcl] at hc); try omega))
  refine CL.stay (num_ok (by omega) hf4) fun h5 s5 => ?_
  have hf5 := s5.fl hf4
  have sb5 := sb4.stay s5 fun _ _ h => h
  have a5 := a4.trans s5
  repeat' (first
    | refine St.h ?_
    | simp (disch := first | omega | (simp only [lnv]; omega)) only [wlk, ↓get_put', ↓reduceIte, seval, en]
    | (with_reducible (first | apply cd_split | apply gd_split)) <;> (intro hc; (try simp only [hcn] at hc); (try simp only [hc]); (try simp only [hcl] at hc); try omega))
  refine CL.mk (writeString_ok sb5 (by simp; omega) hf5) ?_
  rintro _ h6 ⟨U6, sb6, s6, hU6⟩
  have hf6 := s6.fl hf5
  have a6 := a5.past' s6 fun q hq => (sb5.lo q hq).1
  have hL6 := hL1.grow a6
  repeat' (first
    | refine St.h ?_
    | simp (disch := first | omega | (simp only [lnv]; omega)) only [wlk, ↓get_put', ↓reduceIte, seval, hL6.ln]
    | (with_reducible (first | apply cd_split | apply gd_split)) <;> (intro hc; (try simp only [hcn] at hc); (try simp only [hc]); (try simp only [hcl] at hc); try omega))
  refine Ok.lp (fun m t g => ∃ (j : Nat) (U : B → Prop), m = L.length - j ∧ j ≤ L.length ∧ Stay nowhere h1 g ∧ Sb g (B.val h1.next) 54 5 h1.next U (numB seq.toNat ++ (numB L.length ++ (L.take j).flatMap oneB)) ∧ get 6 t = .p h1.next 0 0 2 ∧ get 27 t = v ∧ get 28 t = .i .i64 (L.length : Int) ∧ get 29 t = .i .i64 (j : Int)) L.length ?_ ?_
  · simp (disch := first | omega | (simp only [lnv]; omega)) only [wlk, ↓get_put', ↓reduceIte, seval]
    refine ⟨0, U6, by omega, by omega, a6, by simpa using sb6, ?_⟩
    repeat' (first | trivial | rfl | refine And.intro ?_ ?_)
  rintro I hI m t g ⟨j, U, rfl, hj, st, sbg, f6, f27, f28, f29⟩
  have hfg := st.fl hf1
  have hLg := hL1.grow st
  have hrl := rows_len hB hj
  by_cases hjl : j < L.length
  case neg =>
    obtain rfl : j = L.length := by omega
    have d1 : ((L.length : Int) < (L.length : Int)) = False := eq_false (by omega)
    rw [List.take_length] at sbg
    repeat' (first
      | refine St.h ?_
      | simp (disch := first | omega | (simp only [lnv]; omega)) only [wlk, ↓get_put', ↓reduceIte, seval, f6, f27, f28, f29, d1]
      | (with_reducible (first | apply cd_split | apply gd_split)) <;> (intro hc; (try simp only [hcn] at hc); (try simp only [hc]); (try simp only [hcl] at hc); try omega))
    refine CL.mk (string_ok sbg (by have : (numB L.length ++ L.flatMap oneB).length ≤ 500 := lr; rw [List.length_append]; omega)) ?_
    rintro _ g2 ⟨rfl, t2⟩
    have st2 := st.past' t2 fun i hi => (sbg.lo i hi).1
    repeat' (first
      | refine St.h ?_
      | simp (disch := first | omega | (simp only [lnv]; omega)) only [wlk, ↓get_put', ↓reduceIte, seval]
      | (with_reducible (first | apply cd_split | apply gd_split)) <;> (intro hc; (try simp only [hcn] at hc); (try simp only [hc]); (try simp only [hcl] at hc); try omega))
    refine CL.stay (seal_ok (by have : (numB L.length ++ L.flatMap oneB).length ≤ 500 := lr; rw [List.length_append]; omega) (st2.fl hf1)) fun g3 t3 => ?_
    repeat' (first
      | refine St.h ?_
      | simp (disch := first | omega | (simp only [lnv]; omega)) only [wlk, ↓get_put', ↓reduceIte, seval]
      | (with_reducible (first | apply cd_split | apply gd_split)) <;> (intro hc; (try simp only [hcn] at hc); (try simp only [hc]); (try simp only [hcl] at hc); try omega))
    subst hQ
    exact ⟨by rw [e]; rfl, s1.trans (st2.trans t3)⟩
  have d1 : ((j : Int) < (L.length : Int)) = True := eq_true (by omega)
  have hr := isR_len (upA_is (isB_up hB hjl))
  have h1l := oneB_len (upA_is (isB_up hB hjl))
  have hcat := rowsB_take hjl
  repeat' (first
    | refine St.h ?_
    | simp (disch := first | omega | (simp only [lnv]; omega)) only [wlk, ↓get_put', ↓reduceIte, seval, f6, f27, f28, f29, d1, hLg.ix, hLg.la, Int.toNat_natCast]
    | (with_reducible (first | apply cd_split | apply gd_split)) <;> (intro hc; (try simp only [hcn] at hc); (try simp only [hc]); (try simp only [hcl] at hc); try omega))
  refine AL.own (by simp) hfg fun g1 t1 _ o1 => ?_
  have hf1' := t1.fl hfg
  repeat' (first
    | refine St.h ?_
    | simp (disch := first | omega | (simp only [lnv]; omega)) only [wlk, ↓get_put', ↓reduceIte, seval, f6, f27, f28, f29]
    | (with_reducible (first | apply cd_split | apply gd_split)) <;> (intro hc; (try simp only [hcn] at hc); (try simp only [hc]); (try simp only [hcl] at hc); try omega))
  refine ST.all o1 rfl rfl (by simp) (by simp) fun g2 o2 t2 => ?_
  have hf2' := t2.fl hf1'
  have tt : Stay nowhere g g2 := t1.past' t2 fun q hq => by rw [hq]; exact Nat.le_refl _
  have sb2 := sbg.stay tt fun _ _ h => h
  repeat' (first
    | refine St.h ?_
    | simp (disch := first | omega | (simp only [lnv]; omega)) only [wlk, ↓get_put', ↓reduceIte, seval, f6, f27, f28, f29, o2.row.ln]
    | (with_reducible (first | apply cd_split | apply gd_split)) <;> (intro hc; (try simp only [hcn] at hc); (try simp only [hc]); (try simp only [hcl] at hc); try omega))
  refine CL.stay (blay_ok (w := L.getD j default) (by omega) (by omega) hf2') fun g3 t3 => ?_
  have sb3 := sb2.stay t3 fun _ _ h => h
  repeat' (first
    | refine St.h ?_
    | simp (disch := first | omega | (simp only [lnv]; omega)) only [wlk, ↓get_put', ↓reduceIte, seval, f6, f27, f28, f29]
    | (with_reducible (first | apply cd_split | apply gd_split)) <;> (intro hc; (try simp only [hcn] at hc); (try simp only [hc]); (try simp only [hcl] at hc); try omega))
  refine CL.mk (writeString_ok sb3 (by simp only [List.length_append]; omega) (t3.fl hf2')) ?_
  rintro _ g4 ⟨U4, sb4, t4, hU4⟩
  repeat' (first
    | refine St.h ?_
    | simp (disch := first | omega | (simp only [lnv]; omega)) only [wlk, ↓get_put', ↓reduceIte, seval, f6, f27, f28, f29]
    | (with_reducible (first | apply cd_split | apply gd_split)) <;> (intro hc; (try simp only [hcn] at hc); (try simp only [hc]); (try simp only [hcl] at hc); try omega))
  refine lp_next hI (L.length - (j + 1)) (by omega) ⟨j + 1, U4, rfl, by omega, ((st.trans tt).trans t3).past' t4 fun q hq => (sb3.lo q hq).1, by rw [hcat, ← List.append_assoc]; exact sb4, by simp (disch := first | omega | (simp only [lnv]; omega)) only [wlk, ↓get_put', ↓reduceIte, seval, f6], by simp (disch := first | omega | (simp only [lnv]; omega)) only [wlk, ↓get_put', ↓reduceIte, seval, f27], by simp (disch := first | omega | (simp only [lnv]; omega)) only [wlk, ↓get_put', ↓reduceIte, seval, f28], by simp (disch := first | omega | (simp only [lnv]; omega)) only [wlk, ↓get_put', ↓reduceIte, seval, f29]; rfl⟩
theorem bentries_okO {h : H} {v : V} {seq : Int} {L : List Wri} (hL : Ws h v L) (hl : L.length ≤ 10000) (hf : B.val h.floor ≤ B.val h.next) : FnOk Try.prog 21 [.i .i64 seq, v] h fun y h' => Es h' y (entB seq L) ∧ SwN 4 y ∧ (∀ q, isOf y q → B.val h.next ≤ B.val q) ∧ Stay nowhere h h' := by
  refine fn_go c21 (by intro hb; cases hb) (by simp) (by simp) fun Q hQ => ?_
  simp only [slotsF, Nat.reduceAdd]
  repeat' (first
    | refine St.h ?_
    | simp (disch := first | omega | (simp only [lnv]; omega)) only [wlk, ↓get_put', ↓reduceIte, seval]
    | (with_reducible (first | apply cd_split | apply gd_split)) <;> (intro hc; (try simp only [hcn] at hc); (try simp only [hc]); (try simp only [hcl] at hc); try omega))
  refine CL.stay (bis_ok hL hl hf) fun h1 s1 => ?_
  have hf1 := s1.fl hf
  have hL1 := hL.grow s1
  cases hB : isB L with
  | false =>
    have hE : entB seq L = [] := by unfold entB; rw [hB]; rfl
    repeat' (first
      | refine St.h ?_
      | simp (disch := first | omega | (simp only [lnv]; omega)) only [wlk, ↓get_put', ↓reduceIte, seval]
      | (with_reducible (first | apply cd_split | apply gd_split)) <;> (intro hc; (try simp only [hcn] at hc); (try simp only [hc]); (try simp only [hcl] at hc); try omega))
    subst hQ
    rw [hE]
    refine ⟨Ss.nil, .inl rfl, ?_, s1⟩
    rintro i ⟨_, _, _, _, _, e⟩; cases e
  | true =>
  have hE : entB seq L = L.map fun w => (⟨w.key, seq, w.del, w.val⟩ : Ent) := by unfold entB; rw [hB]; rfl
  repeat' (first
    | refine St.h ?_
    | simp (disch := first | omega | (simp only [lnv]; omega)) only [wlk, ↓get_put', ↓reduceIte, seval, hL1.ln]
    | (with_reducible (first | apply cd_split | apply gd_split)) <;> (intro hc; (try simp only [hcn] at hc); (try simp only [hc]); (try simp only [hcl] at hc); try omega))
  refine Ok.lp (fun m t g => ∃ (j : Nat) (u : V), m = L.length - j ∧ j ≤ L.length ∧ get 0 t = .i .i64 seq ∧ get 5 t = u ∧ get 11 t = v ∧ get 12 t = .i .i64 (L.length : Int) ∧ get 13 t = .i .i64 (j : Int) ∧ Buf g 79 4 u (((L.take j).map fun w => (⟨w.key, seq, w.del, w.val⟩ : Ent)).flatMap entC) ∧ (∀ q, isOf u q → B.val h.next ≤ B.val q) ∧ Stay nowhere h g) L.length ?_ ?_
  · simp (disch := first | omega | (simp only [lnv]; omega)) only [wlk, ↓get_put', ↓reduceIte, seval]
    refine ⟨0, .l0, by omega, by omega, ?_, ?_, ?_, ?_, ?_, Buf.nil _ _ _, ?_, s1⟩
    rotate_right
    · rintro i ⟨_, _, _, _, _, e⟩; cases e
    all_goals first | trivial | rfl
  rintro I hI m t g ⟨j, u, rfl, hj, f0, f5, f11, f12, f13, bf, own, st⟩
  have hLg := hL.grow st
  have hfg := st.fl hf
  by_cases hjl : j < L.length
  case neg =>
    obtain rfl : j = L.length := by omega
    rw [List.take_length] at bf
    have d1 : ((L.length : Int) < (L.length : Int)) = False := eq_false (by omega)
    repeat' (first
      | refine St.h ?_
      | simp (disch := first | omega | (simp only [lnv]; omega)) only [wlk, ↓get_put', ↓reduceIte, seval, f0, f5, f11, f12, f13, d1]
      | (with_reducible (first | apply cd_split | apply gd_split)) <;> (intro hc; (try simp only [hcn] at hc); (try simp only [hc]); (try simp only [hcl] at hc); try omega))
    subst hQ
    rw [hE]
    exact ⟨Ss.buf bf rfl entC_len (by omega), swn_buf12 bf, own, st⟩
  have d1 : ((j : Int) < (L.length : Int)) = True := eq_true (by omega)
  repeat' (first
    | refine St.h ?_
    | simp (disch := first | omega | (simp only [lnv]; omega)) only [wlk, ↓get_put', ↓reduceIte, seval, f0, f5, f11, f12, f13, d1, hLg.ix, hLg.la, Int.toNat_natCast]
    | (with_reducible (first | apply cd_split | apply gd_split)) <;> (intro hc; (try simp only [hcn] at hc); (try simp only [hc]); (try simp only [hcl] at hc); try omega))
  refine AL.own (by simp) hfg fun g1 t1 _ o1 => ?_
  have hf1' := t1.fl hfg
  repeat' (first
    | refine St.h ?_
    | simp (disch := first | omega | (simp only [lnv]; omega)) only [wlk, ↓get_put', ↓reduceIte, seval, f0, f5, f11, f12, f13]
    | (with_reducible (first | apply cd_split | apply gd_split)) <;> (intro hc; (try simp only [hcn] at hc); (try simp only [hc]); (try simp only [hcl] at hc); try omega))
  refine ST.all o1 rfl rfl (by simp) (by simp) fun g2 o2 t2 => ?_
  have hf2' := t2.fl hf1'
  have tt : Stay nowhere g g2 := t1.past' t2 fun q hq => by rw [hq]; exact Nat.le_refl _
  have r2 := o2.row
  repeat' (first
    | refine St.h ?_
    | simp (disch := first | omega | (simp only [lnv]; omega)) only [wlk, ↓get_put', ↓reduceIte, seval, f0, f5, f11, f12, f13, r2.l1]
    | (with_reducible (first | apply cd_split | apply gd_split)) <;> (intro hc; (try simp only [hcn] at hc); (try simp only [hc]); (try simp only [hcl] at hc); try omega))
  refine AL.own (by simp) hf2' fun g3 t3 _ q3 => ?_
  have b3 := bf.grow (tt.trans t3)
  repeat' (first
    | refine St.h ?_
    | simp (disch := first | omega | (simp only [lnv]; omega)) only [wlk, ↓get_put', ↓reduceIte, seval, f0, f5, f11, f12, f13]
    | (with_reducible (first | apply cd_split | apply gd_split)) <;> (intro hc; (try simp only [hcn] at hc); (try simp only [hc]); (try simp only [hcl] at hc); try omega))
  have hfl : (((L.take j).map fun w => (⟨w.key, seq, w.del, w.val⟩ : Ent)).flatMap entC).length = j * 4 := by rw [fm_len entC_len]; simp; omega
  refine AP.buf (vs := entC ⟨(L.getD j default).key, seq, (L.getD j default).del, (L.getD j default).val⟩) (cnt := 1) b3 (new_row q3.row rfl (Nat.le_refl _) (by omega) (by show 4 ≤ 4; omega)) (t3.fl hf2') (by omega) rfl rfl (by rw [hfl]; show j * 4 + 4 ≤ 1048576; omega) fun u2 g4 b4 t4 ho _ => ?_
  repeat' (first
    | refine St.h ?_
    | simp (disch := first | omega | (simp only [lnv]; omega)) only [wlk, ↓get_put', ↓reduceIte, seval, f0, f5, f11, f12, f13]
    | (with_reducible (first | apply cd_split | apply gd_split)) <;> (intro hc; (try simp only [hcn] at hc); (try simp only [hc]); (try simp only [hcl] at hc); try omega))
  have n2 := ((st.trans tt).trans t3).next
  refine lp_next hI (L.length - (j + 1)) (by omega) ⟨j + 1, u2, rfl, by omega, by simp (disch := first | omega | (simp only [lnv]; omega)) only [wlk, ↓get_put', ↓reduceIte, seval, f0], by simp (disch := first | omega | (simp only [lnv]; omega)) only [wlk, ↓get_put', ↓reduceIte, seval], by simp (disch := first | omega | (simp only [lnv]; omega)) only [wlk, ↓get_put', ↓reduceIte, seval, f11], by simp (disch := first | omega | (simp only [lnv]; omega)) only [wlk, ↓get_put', ↓reduceIte, seval, f12], by simp (disch := first | omega | (simp only [lnv]; omega)) only [wlk, ↓get_put', ↓reduceIte, seval, f13]; rfl, ?_, fun i hi => ?_, ((st.trans tt).trans t3).past' t4 fun i hi => own i hi⟩
  · rw [take_wri hjl, List.map_append, List.flatMap_append]; simpa using b4
  · rcases ho i hi with h3 | h3
    · exact own i h3
    · omega
theorem bentries_ok {h : H} {v : V} {seq : Int} {L : List Wri} (hL : Ws h v L) (hl : L.length ≤ 10000) (hf : B.val h.floor ≤ B.val h.next) : FnOk Try.prog 21 [.i .i64 seq, v] h fun y h' => Es h' y (entB seq L) ∧ SwN 4 y ∧ Stay nowhere h h' :=
  (bentries_okO hL hl hf).mono fun _ _ ⟨a, b, _, d⟩ => ⟨a, b, d⟩
end Go.Proofs.Ythncpgkpkdolfaa
