/- Texts of ours, without what this claim does not use: Wg EntM SealM SealN BkM JrEnt JrCell Base NCell NText NEnt1 NEnt2 NEnt4 NEntB SvM TbM TbF TbP JrBkP JrBld NBld JrSeal NSeal NBk1 NBkP JrSv NSv1 NSvP Wh NTbA NTbB JrTb NTb1 NTbO NTbD. No condition. -/
import Derived.Test.YtiingkpdodbldaaPkTableShort3
import Derived.Test.YtiingkpdodbldaaProg
import Derived.KernelRfl
import Derived.Test.YtiingkpdodbldaaChecked
set_option linter.all false
namespace Go.Ev
open Go
section
variable {h : H}
/-- all cells of a block at once -/
theorem ST.ownAll {P : Program} {N : Nx} {id : B} {xs vs : List V} {x : V} {size fin : Nat} (o : Own h id xs) (hc : cells x = vs) (hs : vs.length = size) (h1 : allOne vs = true) (hj : vs.length ≤ fin) (hfit : vs.length < 2 ^ 37)
    (k : ∀ h', Own h' id vs → Stay (fun i => i = id) h h' → N.go P (.tu []) h') : ST P size (.p id 0 0 fin) x h N := by
  obtain ⟨blk, a1, a2, a3, a4, a5, a6, a7⟩ := o
  obtain ⟨next, floor, heap⟩ := h
  obtain ⟨cur, min, sz, cs, bel, fr⟩ := blk
  simp only at a2 a3 a4 a7
  subst a2; subst a3; subst a4
  obtain ⟨tr, t1, t2, t3⟩ := setList_fine vs 0 cs (by omega)
  obtain ⟨hp, s1, s2, s3⟩ := setK_ok id (⟨0, 0, sz, tr, bel, 0⟩ : Blk) heap
  have e1 : B.geB floor id = true := by cases floor <;> first | rfl | (show Nat.ble _ _ = true; rw [Nat.ble_eq]; exact a5)
  have e2 : Nat.ble (Nat.add 0 vs.length) fin = true := by rw [Nat.ble_eq]; show 0 + vs.length ≤ fin; omega
  have e4 : frOk 0 0 = true := rfl
  have e5 : Nat.beq 0 0 = true := rfl
  have e6 : Nat.ble 0 0 = true := rfl
  have e7 : Nat.beq vs.length size = true := by rw [hs]; simp
  have a1' : heap.get id = some ⟨0, 0, sz, cs, bel, 0⟩ := a1
  refine hm_of (v := .tu []) (h' := ⟨next, floor, hp⟩) (fun q => ?_) (k _ ⟨_, s2, rfl, rfl, rfl, a5, a6, fun i z hz => by have := t2 i z hz; rwa [Nat.zero_add] at this⟩ ⟨rfl, Nat.le_refl _, fun i _ hi => s3 i hi⟩)
  show ifK (Nat.beq (cells x).length size) (fun _ => store ⟨next, floor, heap⟩ id 0 0 fin (cells x) fun h => q (.tu []) h) = _
  rw [hc, e7, ifK_true]
  simp only [store, hK_mk, a1', optK_some, blkK_mk, e5, e6, e1, e2, h1, e4, ifK_true]
  rw [t1, s1]
end
theorem ST.all {P : Program} {h : H} {N : Nx} {id : B} {xs vs : List V} {size fin : Nat} (o : Own h id xs) (hs : vs.length = size) (h1 : allOne vs = true) (hj : vs.length ≤ fin) (hfit : vs.length < 2 ^ 37)
    (k : ∀ h', Own h' id vs → Stay (fun i => i = id) h h' → N.go P (.tu []) h') : ST P size (.p id 0 0 fin) (.a vs) h N := ST.ownAll o rfl hs h1 hj hfit k
theorem Own.ra4 {h : H} {Q : V → H → Prop} {id : B} {a b c d : V} {us : List V} (o : Own h id [a, b, c, d]) : RA Q 4 (.p id 0 0 4) us h = Q (one (.a [a, b, c, d] :: us)) h := o.ra rfl (by omega) (by omega)
theorem re_fl (h : H) : B.val (reFloor h).floor ≤ B.val (reFloor h).next := by cases h; exact Nat.le_refl _
/-- a call in a region that draws -/
theorem CL.stayU {P : Program} {f : FuncId} {vs : List V} {h : H} {e : V} {m : Nat} {l : List CO} {t : F} {K : F → H → Prop} (a : FnOk P f vs (reFloor h) fun y h' => y = e ∧ Stay nowhere (reFloor h) h')
    (k : ∀ h', Stay nowhere h h' → DO P l (put m e t) h' K) : CL P f vs (reFloor h) (.u m l t h K) := ⟨_, a, fun v h' hq => by rw [hq.1, go_u]; exact k _ hq.2.unfloor⟩
/-- a row of structs of n cells each -/
def Ss {α : Type} (n : Nat) (c : α → List V) (h : H) (v : V) (L : List α) : Prop :=
  (v = .l0 ∧ L = []) ∨ ∃ id g off fin cap, v = .l id g off L.length fin cap ∧ off + L.length * n ≤ fin ∧ B.val id < B.val h.next ∧ Row h id g off (L.flatMap c)
section
variable {α : Type} [Inhabited α] {n : Nat} {c : α → List V}
theorem fm_len (hc : ∀ e, (c e).length = n) : ∀ (L : List α), (L.flatMap c).length = L.length * n
  | [] => by simp
  | a :: L => by rw [List.flatMap_cons, List.length_append, hc, fm_len hc L, List.length_cons, Nat.add_mul]; omega
theorem fm_at (hc : ∀ e, (c e).length = n) : ∀ {L : List α} {i : Nat}, i < L.length → ((L.flatMap c).drop (i * n)).take n = c (L.getD i default)
  | [], i, h => by simp at h
  | a :: L, 0, h => by
    rw [List.flatMap_cons, Nat.zero_mul, List.drop_zero, List.take_append_of_le_length (by rw [hc]; exact Nat.le_refl _), List.take_of_length_le (by rw [hc]; exact Nat.le_refl _)]; rfl
  | a :: L, i + 1, h => by
    have e : (i + 1) * n = (c a).length + i * n := by rw [hc, Nat.add_mul]; omega
    rw [List.flatMap_cons, e, ← List.drop_drop, List.drop_left, fm_at hc (by simpa using h)]
    simp [List.getD]
theorem fm_get (hc : ∀ e, (c e).length = n) {L : List α} {i d : Nat} (hi : i < L.length) (hd : d < n) : (L.flatMap c)[i * n + d]? = some ((c (L.getD i default)).getD d .u) := by
  have e : (((L.flatMap c).drop (i * n)).take n)[d]? = (c (L.getD i default))[d]? := by rw [fm_at hc hi]
  rw [List.getElem?_take, if_pos hd, List.getElem?_drop] at e
  rw [e]
  have : d < (c (L.getD i default)).length := by rw [hc]; exact hd
  have e3 : ∀ (x : List V), d < x.length → x[d]? = some (x.getD d .u) := fun x hx => by simp [List.getD, hx]
  exact e3 _ this
theorem fm_take (hc : ∀ e, (c e).length = n) : ∀ (L : List α) (k : Nat), (L.take k).flatMap c = (L.flatMap c).take (k * n)
  | [], k => by simp
  | a :: L, 0 => by simp
  | a :: L, k + 1 => by
    have e : (k + 1) * n = (c a).length + k * n := by rw [hc, Nat.add_mul]; omega
    have e2 : ((c a) ++ L.flatMap c).take ((c a).length + k * n) = c a ++ (L.flatMap c).take (k * n) := by
      rw [List.take_append, Nat.add_sub_cancel_left, List.take_of_length_le (Nat.le_add_right _ _)]
    rw [List.take_succ_cons, List.flatMap_cons, List.flatMap_cons, fm_take hc L k, e, e2]
theorem fm_drop (hc : ∀ e, (c e).length = n) : ∀ (L : List α) (k : Nat), (L.drop k).flatMap c = (L.flatMap c).drop (k * n)
  | [], k => by simp
  | a :: L, 0 => by simp
  | a :: L, k + 1 => by
    rw [List.drop_succ_cons, List.flatMap_cons, fm_drop hc L k, show (k + 1) * n = (c a).length + k * n by rw [hc, Nat.add_mul]; omega, ← List.drop_drop, List.drop_left]
variable {P : Program} {h h' g' : H} {N : Nx} {v : V} {L : List α} {i d : Nat}
theorem Ss.ln (a : Ss n c h v L) : H1 P gLen v g' N = N.go P (.i .i64 (L.length : Int)) g' := by
  rcases a with ⟨rfl, rfl⟩ | ⟨id, g, off, fin, cap, rfl, _⟩
  · exact gLen_l0
  · exact gLen_l
theorem Ss.ix (a : Ss n c h v L) (hi : i < L.length) : IX P n v i g' N = N.go P (.p (lid v) (lg v) (loff v + i * n) (lfin v)) g' := by
  rcases a with ⟨rfl, rfl⟩ | ⟨id, g, off, fin, cap, rfl, _⟩
  · simp at hi
  · exact ix_l hi
theorem Ss.ld (a : Ss n c h v L) (hc : ∀ e, (c e).length = n) (hi : i < L.length) (hd : d < n) : L1 P (lid v) (lg v) (loff v + i * n + d) (lfin v) h N = N.go P ((c (L.getD i default)).getD d .u) h := by
  rcases a with ⟨rfl, rfl⟩ | ⟨id, g, off, fin, cap, rfl, hf, hl, r⟩
  · simp at hi
  · refine hv_of fun k => ?_
    have := r.2 (i * n + d) _ (fm_get hc hi hd)
    rw [← Nat.add_assoc] at this
    have h1 : (i + 1) * n ≤ L.length * n := Nat.mul_le_mul_right n hi
    rw [Nat.add_mul] at h1
    exact load1_cell this (by show off + i * n + d < fin; omega) k
theorem Ss.ldA (a : Ss n c h v L) (hc : ∀ e, (c e).length = n) (hn : 1 ≤ n) (hi : i < L.length) : LN P (lid v) (lg v) (loff v + i * n) (lfin v) n h N = N.go P (.a (c (L.getD i default))) h := by
  rcases a with ⟨rfl, rfl⟩ | ⟨id, g, off, fin, cap, rfl, hf, hl, r⟩
  · simp at hi
  · refine hv_of fun k => ?_
    have h1 : (i + 1) * n ≤ L.length * n := Nat.mul_le_mul_right n hi
    rw [Nat.add_mul] at h1
    have hlen := hc (L.getD i default)
    refine loadN_row (vs := c (L.getD i default)) ⟨fun _ => r.1 ?_, fun j y hy => ?_⟩ hlen (by intro e; rw [e] at hlen; simp at hlen; omega) (by show off + i * n + n ≤ fin; omega) fun vs => k (.a vs)
    · intro e
      have h2 := fm_len hc L
      rw [e] at h2
      have h3 : L.length * n = 0 := h2.symm
      omega
    · have hj : j < n := by rw [← hlen]; exact (List.getElem?_eq_some_iff.1 hy).1
      have e := fm_get hc hi hj
      rw [List.getD, hy] at e
      have := r.2 (i * n + j) _ e
      rw [← Nat.add_assoc] at this
      exact this
theorem Ss.grow (a : Ss n c h v L) (s : Stay nowhere h h') : Ss n c h' v L := by
  rcases a with ⟨rfl, rfl⟩ | ⟨id, g, off, fin, cap, rfl, hf, hl, r⟩
  · exact .inl ⟨rfl, rfl⟩
  · exact .inr ⟨id, g, off, fin, cap, rfl, hf, Nat.lt_of_lt_of_le hl s.next, r.grow s hl⟩
theorem Ss.nil : Ss n c h .l0 ([] : List α) := .inl ⟨rfl, rfl⟩
/-- of a literal -/
theorem Ss.lit {id : B} {xs : List V} {cap : Option Nat} {len fin : Nat} (o : Own h id xs) (e : xs = L.flatMap c) (hc : ∀ e, (c e).length = n) (hl : len = L.length) (hf : L.length * n ≤ fin) : Ss n c h (.l id 0 0 len fin cap) L := by
  subst hl; subst e
  have r := o.row
  obtain ⟨blk, h1, h2, h3, h4, h5, h6, h7⟩ := o
  exact .inr ⟨id, 0, 0, fin, cap, rfl, by omega, h6, r⟩
/-- of a row that grew -/
theorem Ss.buf {el : Nat} {xs : List V} (b : Buf h el n v xs) (e : xs = L.flatMap c) (hc : ∀ e, (c e).length = n) (hn : 1 ≤ n) : Ss n c h v L := by
  subst e
  rcases b with ⟨rfl, he⟩ | ⟨id, g, m, blk, rfl, h1, h2, h3, h4, h5, h6, h7, h8, h9, h10⟩
  · refine .inl ⟨rfl, ?_⟩
    cases L with
    | nil => rfl
    | cons a L =>
      have := fm_len hc (a :: L)
      rw [he] at this
      have h3 : (L.length + 1) * n = 0 := this.symm
      rw [Nat.add_mul] at h3; omega
  · have hm : m = L.length := by
      rw [fm_len hc] at h2
      exact (Nat.eq_of_mul_eq_mul_right (by omega) h2).symm
    subst hm
    refine .inr ⟨id, g, 0, (L.flatMap c).length, none, rfl, by rw [fm_len hc]; omega, h4, fun _ => ⟨blk, h5, h6.1⟩, fun i y hy => ?_⟩
    unfold Ev.cell cellB
    rw [h5]
    show (if blk.min ≤ g then blk.cells.getN (0 + i) else none) = _
    rw [if_pos h6.1, Nat.zero_add]
    exact h10 i y hy
/-- a slice whose end is where it should be -/
def SwN (n : Nat) (v : V) : Prop := v = .l0 ∨ ∃ id g off m fin cap, v = .l id g off m fin cap ∧ match cap with
  | some c => m ≤ c ∧ (18446744073709551616 ≤ c → m = 0)
  | none => fin = off + m * n
theorem swn_capS {n off k L : Nat} : match capS k L with
  | some c => k ≤ c ∧ (18446744073709551616 ≤ c → k = 0)
  | none => off + k * n = off + k * n := by
  cases k with
  | zero => (cases L with | zero => exact rfl | succ L => exact ⟨Nat.zero_le _, fun _ => rfl⟩)
  | succ k => exact rfl
theorem row_hi {id : B} {g off k : Nat} (hc : ∀ e, (c e).length = n) (r : Row h id g off (L.flatMap c)) : Row h id g off ((L.take k).flatMap c) := by
  rw [fm_take hc]
  refine ⟨fun hne => r.1 fun e => hne (by rw [e]; simp), fun i y hy => r.2 i y ?_⟩
  rw [List.getElem?_take] at hy
  split at hy
  · exact hy
  · cases hy
theorem row_lo {id : B} {g off k : Nat} (hc : ∀ e, (c e).length = n) (r : Row h id g off (L.flatMap c)) : Row h id g (off + k * n) ((L.drop k).flatMap c) := by
  rw [fm_drop hc]
  refine ⟨fun hne => r.1 fun e => hne (by rw [e]; simp), fun i y hy => ?_⟩
  rw [List.getElem?_drop] at hy
  have := r.2 _ y hy
  rwa [← Nat.add_assoc] at this
theorem Ss.hi {kd : IntKind} {k : Nat} (a : Ss n c h v L) (hc : ∀ e, (c e).length = n) (w : SwN n v) (hk : k ≤ L.length) : ∃ u, Ss n c h u (L.take k) ∧ SwN n u ∧ ∀ (g : H) (N : Nx), H2 P (slHiV n) v (.i kd (k : Int)) g N = N.go P u g := by
  have e0 : Nat.ble 0 k = true := by rw [Nat.ble_eq]; omega
  have hkn : k * n ≤ L.length * n := Nat.mul_le_mul_right n hk
  have htk : (L.take k).length = k := by rw [List.length_take]; omega
  rcases a with ⟨rfl, rfl⟩ | ⟨id, g, off, fin, cap, rfl, h2, h3, r⟩
  · have : k = 0 := by simpa using hk
    subst this
    exact ⟨.l0, .inl ⟨rfl, by simp⟩, .inl rfl, fun g N => hv_of fun k => rfl⟩
  rcases w with e | ⟨id', g', off', n', fin', cap', e, hw⟩
  · cases e
  cases e
  cases cap with
  | none =>
    have hw : fin = off + L.length * n := hw
    refine ⟨.l id g off k (off + k * n) (capS k L.length), .inr ⟨id, g, off, off + k * n, capS k L.length, by rw [htk], by rw [htk]; exact Nat.le_refl _, h3, row_hi hc r⟩, .inr ⟨_, _, _, _, _, _, rfl, swn_capS⟩, fun g0 N => hv_of fun q => ?_⟩
    have e1 : Nat.ble k L.length = true := by rw [Nat.ble_eq]; exact hk
    have e2 : Nat.beq fin (Nat.add off (Nat.mul L.length n)) = true := by rw [hw]; exact Nat.beq_refl _
    unfold slHiV
    simp only [vL_l, vI_i, natK_cast, e0, ifK_true]
    show sliceN n id g off L.length fin 0 k q = _
    unfold sliceN
    rw [e1, ifK_true, e2, ifK_true, fN_eq, fN_eq, fN_eq]
    show q (.l id g (off + 0 * n) (k - 0) (off + k * n) (capS k L.length)) = _
    simp
  | some cc =>
    have hw2 : 18446744073709551616 ≤ cc → L.length = 0 := hw.2
    have hw : L.length ≤ cc := hw.1
    have e1 : Nat.ble k cc = true := by rw [Nat.ble_eq]; omega
    cases hfc : flagB cc with
    | true =>
      have hcc := flagB_t hfc
      have hx := hw2 hcc
      have hk0 : k = 0 := by omega
      subst hk0
      refine ⟨.l id g off 0 off (some cc), .inr ⟨id, g, off, off, some cc, by simp, by simp, h3, row_hi hc r⟩, .inr ⟨_, _, _, _, _, _, rfl, Nat.zero_le _, fun _ => rfl⟩, fun g0 N => hv_of fun q => ?_⟩
      unfold slHiV
      simp only [vL_l, vI_i, natK_cast, e0, ifK_true]
      show boolK (flagB cc) (fun _ => ifK (Nat.beq 0 0) fun _ => q (.l id g off 0 off (some cc))) _ = _
      rw [hfc]; rfl
    | false =>
    have hcM := flagB_f hfc
    cases cc with
    | zero =>
      have hx : L.length = 0 := by omega
      have hk0 : k = 0 := by omega
      subst hk0
      refine ⟨.l id g off 0 fin (some 0), .inr ⟨id, g, off, fin, some 0, by simp, by simp; omega, h3, row_hi hc r⟩, .inr ⟨_, _, _, _, _, _, rfl, Nat.le_refl _, fun _ => rfl⟩, fun g0 N => hv_of fun q => ?_⟩
      unfold slHiV
      simp only [vL_l, vI_i, natK_cast, e0, ifK_true]
      rfl
    | succ cc =>
      refine ⟨.l id g off k fin (some (cc + 1)), .inr ⟨id, g, off, fin, some (cc + 1), by rw [htk], by rw [htk]; omega, h3, row_hi hc r⟩, .inr ⟨_, _, _, _, _, _, rfl, by show k ≤ cc + 1; omega, fun h => absurd hcM (Nat.not_lt.2 h)⟩, fun g0 N => hv_of fun q => ?_⟩
      unfold slHiV
      simp only [vL_l, vI_i, natK_cast, e0, ifK_true]
      show boolK (flagB (cc + 1)) _ (fun _ => sliceC n id g off L.length fin (cc + 1) 0 k fun v => q v) = _
      rw [hfc, boolK_false, sliceC_mid hcM (by omega) (by omega)]
      simp
theorem Ss.lo {kd : IntKind} {k : Nat} (a : Ss n c h v L) (hc : ∀ e, (c e).length = n) (w : SwN n v) (hk : k ≤ L.length) : ∃ u, Ss n c h u (L.drop k) ∧ SwN n u ∧ ∀ (g : H) (N : Nx), H2 P (slLoV n) v (.i kd (k : Int)) g N = N.go P u g := by
  have e0 : Nat.ble k L.length = true := by rw [Nat.ble_eq]; omega
  have hkn : k * n + (L.length - k) * n = L.length * n := by rw [← Nat.add_mul]; congr 1; omega
  have htk : (L.drop k).length = L.length - k := List.length_drop
  rcases a with ⟨rfl, rfl⟩ | ⟨id, g, off, fin, cap, rfl, h2, h3, r⟩
  · have : k = 0 := by simpa using hk
    subst this
    exact ⟨.l0, .inl ⟨rfl, by simp⟩, .inl rfl, fun g N => hv_of fun k => rfl⟩
  rcases w with e | ⟨id', g', off', n', fin', cap', e, hw⟩
  · cases e
  cases e
  cases cap with
  | none =>
    have hw : fin = off + L.length * n := hw
    refine ⟨.l id g (off + k * n) (L.length - k) (off + L.length * n) none, .inr ⟨id, g, off + k * n, off + L.length * n, none, by rw [htk], by rw [htk]; omega, h3, row_lo hc r⟩, .inr ⟨_, _, _, _, _, _, rfl, by show off + L.length * n = off + k * n + (L.length - k) * n; omega⟩, fun g0 N => hv_of fun q => ?_⟩
    have e1 : Nat.ble L.length L.length = true := by rw [Nat.ble_eq]; exact Nat.le_refl _
    have e2 : Nat.beq fin (Nat.add off (Nat.mul L.length n)) = true := by rw [hw]; exact Nat.beq_refl _
    unfold slLoV
    simp only [vL_l, vI_i, natK_cast, e0, ifK_true]
    show sliceN n id g off L.length fin k L.length q = _
    unfold sliceN
    rw [e1, ifK_true, e2, ifK_true, fN_eq, fN_eq, fN_eq, capS_self]
    rfl
  | some cc =>
    have hw2 : 18446744073709551616 ≤ cc → L.length = 0 := hw.2
    have hw : L.length ≤ cc := hw.1
    have e1 : Nat.ble L.length cc = true := by rw [Nat.ble_eq]; omega
    cases hfc : flagB cc with
    | true =>
      have hcc := flagB_t hfc
      have hx := hw2 hcc
      have hk0 : k = 0 := by omega
      subst hk0
      refine ⟨.l id g off 0 off (some cc), .inr ⟨id, g, off, off, some cc, by rw [htk, hx], by rw [htk, hx]; simp, h3, ?_⟩, .inr ⟨_, _, _, _, _, _, rfl, Nat.zero_le _, fun _ => rfl⟩, fun g0 N => hv_of fun q => ?_⟩
      · rw [List.drop_eq_nil_of_le (by omega)]
        exact ⟨fun hne => absurd rfl hne, fun i v hv => by simp at hv⟩
      · unfold slLoV
        simp only [vL_l, vI_i, natK_cast, e0, ifK_true]
        show boolK (flagB cc) (fun _ => ifK (Nat.beq L.length 0) fun _ => q (.l id g off 0 off (some cc))) _ = _
        rw [hfc, hx]; rfl
    | false =>
    have hcM := flagB_f hfc
    have eM : Nat.ble (Nat.succ cc) 18446744073709551616 = true := by rw [Nat.ble_eq]; exact hcM
    by_cases hkc : k = cc
    · have hx : L.length = k := by omega
      refine ⟨.l id g off 0 fin (some 0), .inr ⟨id, g, off, fin, some 0, by rw [htk, hx]; simp, by rw [htk, hx]; simp; omega, h3, ?_⟩, .inr ⟨_, _, _, _, _, _, rfl, Nat.le_refl _, fun _ => rfl⟩, fun g0 N => hv_of fun q => ?_⟩
      · rw [List.drop_eq_nil_of_le (by omega)]
        exact ⟨fun hne => absurd rfl hne, fun i v hv => by simp at hv⟩
      · unfold slLoV
        simp only [vL_l, vI_i, natK_cast, e0, ifK_true]
        show boolK (flagB cc) _ (fun _ => sliceC n id g off L.length fin cc k L.length fun v => q v) = _
        rw [hfc, boolK_false]
        unfold sliceC
        rw [eM, ifK_true]
        have e2 : Nat.beq k cc = true := by rw [hkc]; exact Nat.beq_refl _
        rw [e1, ifK_true, e2]; rfl
    · refine ⟨.l id g (off + k * n) (L.length - k) fin (some (cc - k)), .inr ⟨id, g, off + k * n, fin, some (cc - k), by rw [htk], by rw [htk]; omega, h3, row_lo hc r⟩, .inr ⟨_, _, _, _, _, _, rfl, by show L.length - k ≤ cc - k; omega, fun h => absurd hcM (by omega)⟩, fun g0 N => hv_of fun q => ?_⟩
      unfold slLoV
      simp only [vL_l, vI_i, natK_cast, e0, ifK_true]
      show boolK (flagB cc) _ (fun _ => sliceC n id g off L.length fin cc k L.length fun v => q v) = _
      rw [hfc, boolK_false, sliceC_mid hcM (by omega) (by omega)]
/-- the cells that are appended -/
theorem new_ss (a : Ss n c h v L) (hc : ∀ e, (c e).length = n) (hn : 1 ≤ n) (k : Nat → List V → Bool) : newCells n v h k = k L.length (L.flatMap c) := by
  rcases a with ⟨rfl, rfl⟩ | ⟨id, g, off, fin, cap, rfl, hf, hl, r⟩
  · rfl
  · have hlen := fm_len hc L
    cases hm : L.length with
    | zero =>
      have : L = [] := List.eq_nil_of_length_eq_zero hm
      subst this; rfl
    | succ m =>
      rw [hm] at hlen hf
      show loadN h id g off fin (Nat.mul (m + 1) n) (fun vs => k (m + 1) vs) = _
      have hne : L.flatMap c ≠ [] := by
        intro e; rw [e] at hlen
        have h3 : (m + 1) * n = 0 := hlen.symm
        rw [Nat.add_mul] at h3; omega
      rw [show Nat.mul (m + 1) n = (L.flatMap c).length by rw [hlen]; rfl, loadN_row r rfl hne (by rw [hlen]; omega)]
/-- append([]T{e}, l...) -/
theorem AP.lit {id : B} {cs : List V} {el : Nat} (o : Own h id cs) (hcs : cs.length = n) (hn : 1 ≤ n) (hc : ∀ e, (c e).length = n) (a : Ss n c h v L) (hf : B.val h.floor ≤ B.val h.next) (hb : (1 + L.length) * n ≤ 1048576)
    (k0 : L = [] → N.go P (.l id 0 0 1 n (some 1)) h)
    (k1 : ∀ v' h', L ≠ [] → Buf h' el n v' (cs ++ L.flatMap c) → Top h' v' → Stay nowhere h h' → (∀ i, isOf v' i → B.val h.next ≤ B.val i) → N.go P v' h') : AP P el n (.l id 0 0 1 n (some 1)) v h N := by
  have hlen := fm_len hc L
  cases hm : L.length with
  | zero =>
    have : L = [] := List.eq_nil_of_length_eq_zero hm
    subst this
    refine hm_of (v := .l id 0 0 1 n (some 1)) (h' := h) (fun k => ?_) (k0 rfl)
    rw [new_ss a hc hn]; rfl
  | succ m =>
    have hne : L ≠ [] := by intro e; rw [e] at hm; simp at hm
    have hb1 : 1 + L.length ≤ 1048576 := by
      have := Nat.mul_le_mul_left (1 + L.length) hn
      omega
    have hcn : (1 + L.length) * n = n + L.length * n := by rw [Nat.add_mul]; omega
    obtain ⟨h', a1, a2, a3, blk, b1, b2, b3, b4, b5, b6, b7⟩ := alloc_new el (cs ++ L.flatMap c) h (by rw [List.length_append]; omega)
    refine hm_of (v := .l h.next 0 0 (1 + L.length) ((1 + L.length) * n) none) (h' := h') (fun k => ?_) (k1 _ h' hne ?_ ?_ a2 ?_)
    · rw [new_ss a hc hn]
      show boolK (Nat.ble (Nat.add 1 L.length) 1) (fun _ => appIn id 0 0 1 n 1 n L.length (L.flatMap c) h k) (fun _ => appOut el id 0 0 1 n n L.length (L.flatMap c) h k) = _
      have e1 : Nat.ble (Nat.add 1 L.length) 1 = false := by
        cases hx : Nat.ble (Nat.add 1 L.length) 1 with
        | false => rfl
        | true => have := Nat.le_of_ble_eq_true hx; have h2 : 1 + L.length ≤ 1 := this; omega
      rw [e1]
      show appOut el id 0 0 1 n n L.length (L.flatMap c) h k = _
      unfold appOut
      have e2 : Nat.ble (Nat.add 1 L.length) 1048576 = true := by rw [Nat.ble_eq]; exact hb1
      rw [e2, ifK_true, show Nat.mul 1 n = cs.length by rw [hcs]; show 1 * n = n; omega, loadZ_pos (by omega), loadN_row o.row rfl (by intro e; rw [e] at hcs; simp at hcs; omega) (by omega), app_eq, a1, fN_eq, fN_eq]
      rfl
    · refine .inr ⟨h.next, 0, 1 + L.length, blk, by rw [List.length_append, hlen, hcs, ← hcn], by omega, by rw [List.length_append, hlen, hcs, ← hcn], by rw [a2.floor]; exact hf, by omega, b1, ⟨by omega, by omega⟩, b4, b5, b6, b7⟩
    · intro id' g off m' fin cap e
      cases e
      exact ⟨blk, b1, b3⟩
    · rintro i ⟨g, off, m', fin, cap, e⟩
      cases e; exact Nat.le_refl _
end
end Go.Ev

set_option linter.all false
namespace Go.Ev
open Go
structure Ent where
  key : List UInt8
  seq : Int
  del : Bool
  val : List UInt8
deriving DecidableEq
def entZ : Ent := ⟨[], 0, false, []⟩
instance : Inhabited Ent := ⟨entZ⟩
def entC (e : Ent) : List V := [sv e.key, .i .i64 e.seq, .b e.del, sv e.val]
theorem entC_len (e : Ent) : (entC e).length = 4 := rfl
def Es (h : H) (v : V) (L : List Ent) : Prop := Ss 4 entC h v L
section
variable {P : Program} {h h' g' : H} {N : Nx} {v : V} {L : List Ent} {i d : Nat}
theorem Es.ln (a : Es h v L) : H1 P gLen v g' N = N.go P (.i .i64 (L.length : Int)) g' := Ss.ln a
theorem Es.ix (a : Es h v L) (hi : i < L.length) : IX P 4 v i g' N = N.go P (.p (lid v) (lg v) (loff v + i * 4) (lfin v)) g' := Ss.ix a hi
theorem Es.l0 (a : Es h v L) (hi : i < L.length) : L1 P (lid v) (lg v) (loff v + i * 4) (lfin v) h N = N.go P (sv (L.getD i default).key) h := Ss.ld (d := 0) a entC_len hi (by omega)
theorem Es.l2 (a : Es h v L) (hi : i < L.length) : L1 P (lid v) (lg v) (loff v + i * 4 + 2) (lfin v) h N = N.go P (.b (L.getD i default).del) h := Ss.ld (d := 2) a entC_len hi (by omega)
theorem Es.l3 (a : Es h v L) (hi : i < L.length) : L1 P (lid v) (lg v) (loff v + i * 4 + 3) (lfin v) h N = N.go P (sv (L.getD i default).val) h := Ss.ld (d := 3) a entC_len hi (by omega)
theorem Es.la (a : Es h v L) (hi : i < L.length) : LN P (lid v) (lg v) (loff v + i * 4) (lfin v) 4 h N = N.go P (.a [sv (L.getD i default).key, .i .i64 (L.getD i default).seq, .b (L.getD i default).del, sv (L.getD i default).val]) h := Ss.ldA a entC_len (by omega) hi
theorem Es.grow (a : Es h v L) (s : Stay nowhere h h') : Es h' v L := Ss.grow a s
end
/-- of a write -/
def isW (key : List UInt8) (del : Bool) (val : List UInt8) : Bool := decide (1 ≤ key.length ∧ key.length ≤ 13 ∧ val.length ≤ 24 ∧ (del = true → val = []))
def isE (e : Ent) : Bool := decide (1 ≤ e.seq ∧ e.seq ≤ 1000000) && isW e.key e.del e.val
theorem isE_iff {e : Ent} : isE e = true ↔ (1 ≤ e.seq ∧ e.seq ≤ 1000000) ∧ 1 ≤ e.key.length ∧ e.key.length ≤ 13 ∧ e.val.length ≤ 24 ∧ (e.del = true → e.val = []) := by
  unfold isE isW; rw [Bool.and_eq_true, decide_eq_true_eq, decide_eq_true_eq]
theorem isE_in {e : Ent} (h1 : 1 ≤ e.seq) (h2 : e.seq ≤ 1000000) : isE e = isW e.key e.del e.val := by unfold isE; rw [decide_eq_true ⟨h1, h2⟩, Bool.true_and]
theorem isE_lo {e : Ent} (h1 : e.seq < 1) : isE e = false := by unfold isE; rw [decide_eq_false (by omega), Bool.false_and]
theorem isE_hi {e : Ent} (h1 : 1000000 < e.seq) : isE e = false := by unfold isE; rw [decide_eq_false (by omega), Bool.false_and]
section
variable {k v : List UInt8} {d : Bool}
theorem isW_lo (h : (k.length : Int) < 1) : isW k d v = false := by unfold isW; rw [decide_eq_false_iff_not]; rintro ⟨a, _⟩; omega
theorem isW_hi (h : 13 < (k.length : Int)) : isW k d v = false := by unfold isW; rw [decide_eq_false_iff_not]; rintro ⟨_, a, _⟩; omega
theorem isW_t (h1 : 1 ≤ (k.length : Int)) (h2 : (k.length : Int) ≤ 13) (hd : d = true) : isW k d v = decide (v = []) := by
  subst hd; unfold isW; congr 1
  refine propext ⟨fun h => h.2.2.2 rfl, fun e => ?_⟩
  subst e; exact ⟨by omega, by omega, by simp, fun _ => rfl⟩
theorem isW_f (h1 : 1 ≤ (k.length : Int)) (h2 : (k.length : Int) ≤ 13) (hd : d = false) : isW k d v = decide ((v.length : Int) ≤ 24) := by
  subst hd; unfold isW; congr 1
  exact propext ⟨fun h => by omega, fun e => ⟨by omega, by omega, by omega, fun h => by cases h⟩⟩
end
def lessE (a b : Ent) : Bool := if a.key = b.key then decide (b.seq < a.seq) else Op.bytesLess a.key b.key
/-- the first k places are in order -/
def srtU (L : List Ent) (k : Nat) : Bool := (List.range k).all fun j => lessE (L.getD j default) (L.getD (j + 1) default)
def sortedE (L : List Ent) : Bool := srtU L (L.length - 1)
theorem srtU_succ (L : List Ent) (k : Nat) : srtU L (k + 1) = (srtU L k && lessE (L.getD k default) (L.getD (k + 1) default)) := by
  unfold srtU; rw [List.range_succ, List.all_append]; simp
theorem srtU_at {L : List Ent} {j k : Nat} (h : srtU L k = true) (hj : j < k) : lessE (L.getD j default) (L.getD (j + 1) default) = true := by
  unfold srtU at h
  rw [List.all_eq_true] at h
  exact h j (by rw [List.mem_range]; exact hj)
theorem sorted_no {L : List Ent} {j : Nat} (hj : j + 1 < L.length) (h : lessE (L.getD j default) (L.getD (j + 1) default) = false) : sortedE L = false := by
  cases hs : sortedE L with
  | false => rfl
  | true => have := srtU_at (j := j) hs (by omega); rw [h] at this; cases this
theorem bl_cons {x y : UInt8} {a b : List UInt8} : Op.bytesLess (x :: a) (y :: b) = true ↔ x.toNat < y.toNat ∨ (x = y ∧ Op.bytesLess a b = true) := by
  simp only [Op.bytesLess, Bool.or_eq_true, Bool.and_eq_true, decide_eq_true_eq, beq_iff_eq, UInt8.lt_iff_toNat_lt]
theorem bl_irr : ∀ l : List UInt8, Op.bytesLess l l = false
  | [] => rfl
  | c :: l => by
    cases h : Op.bytesLess (c :: l) (c :: l) with
    | false => rfl
    | true =>
      rcases bl_cons.1 h with h | ⟨_, h⟩
      · omega
      · rw [bl_irr l] at h; cases h
theorem bl_trans : ∀ {a b c : List UInt8}, Op.bytesLess a b = true → Op.bytesLess b c = true → Op.bytesLess a c = true
  | a, [], c, h, _ => by cases a <;> cases h
  | _, _ :: _, [], _, h => by cases h
  | [], _ :: _, _ :: _, _, _ => rfl
  | x :: a, y :: b, z :: c, h, g => by
    rcases bl_cons.1 h with h1 | ⟨h1, h2⟩ <;> rcases bl_cons.1 g with g1 | ⟨g1, g2⟩
    · exact bl_cons.2 (.inl (by omega))
    · exact bl_cons.2 (.inl (by rw [← g1]; exact h1))
    · exact bl_cons.2 (.inl (by rw [h1]; exact g1))
    · exact bl_cons.2 (.inr ⟨h1.trans g1, bl_trans h2 g2⟩)
theorem bl_asym {a b : List UInt8} (h : Op.bytesLess a b = true) : Op.bytesLess b a = false := by
  cases g : Op.bytesLess b a with
  | false => rfl
  | true => have := bl_trans h g; rw [bl_irr] at this; cases this
theorem bl_total : ∀ {a b : List UInt8}, a ≠ b → Op.bytesLess a b = true ∨ Op.bytesLess b a = true
  | [], [], h => absurd rfl h
  | [], _ :: _, _ => .inl rfl
  | _ :: _, [], _ => .inr rfl
  | x :: a, y :: b, h => by
    by_cases e : x = y
    · subst e
      rcases bl_total (a := a) (b := b) (fun e => h (by rw [e])) with g | g
      · exact .inl (bl_cons.2 (.inr ⟨rfl, g⟩))
      · exact .inr (bl_cons.2 (.inr ⟨rfl, g⟩))
    · have : x.toNat ≠ y.toNat := fun g => e (UInt8.toNat_inj.1 g)
      rcases Nat.lt_or_ge x.toNat y.toNat with g | g
      · exact .inl (bl_cons.2 (.inl g))
      · exact .inr (bl_cons.2 (.inl (by omega)))
theorem lessE_ne {a b : Ent} (h : ¬ a.key = b.key) : lessE a b = Op.bytesLess a.key b.key := if_neg h
theorem lessE_eq {a b : Ent} (h : a.key = b.key) : lessE a b = decide (b.seq < a.seq) := if_pos h
theorem lessE_trans {a b c : Ent} (h : lessE a b = true) (g : lessE b c = true) : lessE a c = true := by
  unfold lessE at *
  by_cases e1 : a.key = b.key <;> by_cases e2 : b.key = c.key
  · rw [if_pos e1] at h; rw [if_pos e2] at g; rw [if_pos (e1.trans e2)]
    simp at h g ⊢; omega
  · rw [if_neg e2] at g; rw [e1, if_neg e2]; exact g
  · rw [if_neg e1] at h; rw [← e2, if_neg e1]; exact h
  · rw [if_neg e1] at h; rw [if_neg e2] at g
    have := bl_trans h g
    rw [if_neg]
    · exact this
    · intro e; rw [e, bl_irr] at this; cases this
def tailB (e : Ent) : List UInt8 := numB e.seq.toNat ++ (if e.del then [1] else 0 :: textB e.val)
def bytesE (e : Ent) : List UInt8 := if isE e then textB e.key ++ tailB e else []
section
variable {s k v : List UInt8} {n m j : Nat} {q e : Int}
end
theorem sorted_lt {L : List Ent} (hs : sortedE L = true) : ∀ {i j : Nat}, i < j → j < L.length → lessE (L.getD i default) (L.getD j default) = true := by
  intro i j hij
  induction j with
  | zero => omega
  | succ j ih =>
    intro hj
    have h1 : lessE (L.getD j default) (L.getD (j + 1) default) = true := srtU_at (k := L.length - 1) hs (by omega)
    by_cases e : i = j
    · subst e; exact h1
    · exact lessE_trans (ih (by omega) (by omega)) h1
def okE (e : Ent) : Bool := decide (e.key.length ≤ 20) && decide (e.val.length ≤ 40)
def fewE (L : List Ent) : Bool := L.all okE && decide (L.length ≤ 60)
theorem all_at {p : Ent → Bool} {L : List Ent} {i : Nat} (hi : i < L.length) (h : p (L.getD i default) = false) : L.all p = false := by
  rw [List.all_eq_false]
  refine ⟨L[i], by simp, ?_⟩
  rw [show L.getD i default = L[i] by simp [List.getD, hi]] at h
  rw [h]; decide
theorem all_ok {p : Ent → Bool} {L : List Ent} (h : ∀ j, j < L.length → p (L.getD j default) = true) : L.all p = true := by
  rw [List.all_eq_true]
  intro y hy
  obtain ⟨j, hj, rfl⟩ := List.getElem_of_mem hy
  have := h j hj
  rwa [show L.getD j default = L[j] by simp [List.getD, hj]] at this
end Go.Ev

set_option linter.all false
namespace Go.Ev
open Go
/-- the sum's two parts, one byte further -/
def adlStep (p : Nat × Nat) (c : UInt8) : Nat × Nat := ((p.1 + c.toNat) % 65521, (p.2 + (p.1 + c.toNat) % 65521) % 65521)
def adlF (p : Nat × Nat) (l : List UInt8) : Nat × Nat := l.foldl adlStep p
def adl (l : List UInt8) : Nat × Nat := adlF (1, 0) l
def sumB (l : List UInt8) : Nat := (adl l).2 * 65536 + (adl l).1
theorem adlF_append (p : Nat × Nat) (a b : List UInt8) : adlF p (a ++ b) = adlF (adlF p a) b := List.foldl_append
theorem adlF_lt {p : Nat × Nat} (h1 : p.1 < 65521) (h2 : p.2 < 65521) : ∀ l, (adlF p l).1 < 65521 ∧ (adlF p l).2 < 65521 := by
  intro l
  induction l generalizing p with
  | nil => exact ⟨h1, h2⟩
  | cons c l ih => exact ih (p := adlStep p c) (Nat.mod_lt _ (by omega)) (Nat.mod_lt _ (by omega))
theorem adl_lt (l : List UInt8) : (adl l).1 < 65521 ∧ (adl l).2 < 65521 := adlF_lt (by decide) (by decide) l
theorem sumB_lt (l : List UInt8) : sumB l < 4294967296 := by
  have := adl_lt l
  unfold sumB; omega
theorem sumB_snoc (l : List UInt8) (c : UInt8) : adl (l ++ [c]) = adlStep (adl l) c := by
  unfold adl; rw [adlF_append]; rfl
/-- four bytes of a number, the highest first -/
def fourB (n : Nat) : List UInt8 := [UInt8.ofNat (n / 16777216), UInt8.ofNat (n / 65536), UInt8.ofNat (n / 256), UInt8.ofNat n]
theorem fourB_len (n : Nat) : (fourB n).length = 4 := rfl
def sealB (l : List UInt8) : List UInt8 := numB l.length ++ fourB (sumB l) ++ l
theorem sealB_len (l : List UInt8) : (sealB l).length = (numB l.length).length + 4 + l.length := by
  unfold sealB; rw [List.length_append, List.length_append, fourB_len]
/-- what is sealed at the front -/
def openB (l : List UInt8) : List UInt8 × Int × Int :=
  if (takeN l).2.2 = 12 then ([], 0, 12) else if (takeN l).2.2 ≠ 0 then ([], 0, 13) else
  if ((l.length : Int) - (takeN l).2.1 < 4 ∨ (l.length : Int) - (takeN l).2.1 - 4 < (takeN l).1) then ([], 0, 12) else
  if fourB (sumB ((l.drop ((takeN l).2.1.toNat + 4)).take (takeN l).1.toNat)) ≠ (l.drop (takeN l).2.1.toNat).take 4 then ([], 0, 13) else
  ((l.drop ((takeN l).2.1.toNat + 4)).take (takeN l).1.toNat, (takeN l).2.1 + 4 + (takeN l).1, 0)
/-- with a number at the front -/
theorem openB_num {l : List UInt8} {n k : Nat} (h : takeN l = ((n : Int), (k : Int), 0)) : openB l = if ((l.length : Int) - k < 4 ∨ (l.length : Int) - k - 4 < n) then ([], 0, 12) else
    if fourB (sumB ((l.drop (k + 4)).take n)) ≠ (l.drop k).take 4 then ([], 0, 13) else ((l.drop (k + 4)).take n, (k : Int) + 4 + n, 0) := by
  unfold openB
  rw [h]
  simp only [Int.toNat_natCast]
  rw [if_neg (by decide), if_neg (by simp)]
theorem openB_seal {l more : List UInt8} (h : l.length ≤ 9223372036854775807) : openB (sealB l ++ more) = (l, ((sealB l).length : Int), 0) := by
  have e : sealB l ++ more = numB l.length ++ (fourB (sumB l) ++ l ++ more) := by unfold sealB; simp
  have ht : takeN (sealB l ++ more) = ((l.length : Int), ((numB l.length).length : Int), 0) := by rw [e]; exact takeN_numB h _
  rw [openB_num ht]
  have hlen : (sealB l ++ more).length = (numB l.length).length + 4 + l.length + more.length := by rw [List.length_append, sealB_len]
  have d1 : (sealB l ++ more).drop (numB l.length).length = fourB (sumB l) ++ l ++ more := by rw [e, List.drop_left]
  have d2 : (sealB l ++ more).drop ((numB l.length).length + 4) = l ++ more := by
    rw [← List.drop_drop, d1]
    show (fourB (sumB l) ++ l ++ more).drop (fourB (sumB l)).length = _
    rw [List.append_assoc, List.drop_left]
  have d3 : (fourB (sumB l) ++ l ++ more).take 4 = fourB (sumB l) := by
    show (fourB (sumB l) ++ l ++ more).take (fourB (sumB l)).length = _
    rw [List.append_assoc, List.take_left]
  rw [if_neg (by omega), d1, d2, d3, List.take_left, if_neg (by simp), sealB_len]
  congr 1
end Go.Ev

set_option linter.all false
namespace Go.Ev
open Go
theorem adl_take {l : List UInt8} {i : Nat} (h : i < l.length) : adl (l.take (i + 1)) = adlStep (adl (l.take i)) (l.getD i 0) := by
  rw [← sumB_snoc]
  congr 1
  rw [List.take_succ_eq_append_getElem h]
  simp [List.getD, h]
theorem openB_range (l : List UInt8) : openB l = ([], 0, 12) ∨ openB l = ([], 0, 13) ∨ ∃ (x : List UInt8) (n : Nat), openB l = (x, (n : Int), 0) ∧ 5 ≤ n ∧ n ≤ l.length ∧ x.length + 5 ≤ n := by
  rcases takeN_range l with (hc | hc) | ⟨n, k, hc, h1, h2, h3, h4⟩
  · right; left; unfold openB; rw [hc]; rfl
  · left; unfold openB; rw [hc]; rfl
  · rw [openB_num hc]
    by_cases c1 : ((l.length : Int) - k < 4 ∨ (l.length : Int) - k - 4 < n)
    · rw [if_pos c1]; exact .inl rfl
    · rw [if_neg c1]
      by_cases c2 : fourB (sumB ((l.drop (k + 4)).take n)) ≠ (l.drop k).take 4
      · rw [if_pos c2]; exact .inr (.inl rfl)
      · rw [if_neg c2]
        refine .inr (.inr ⟨_, k + 4 + n, rfl, by omega, by omega, ?_⟩)
        rw [List.length_take]; omega
end Go.Ev

set_option linter.all false
namespace Go.Ev
open Go
/-- how far two keys are alike -/
def sharedB : List UInt8 → List UInt8 → Nat
  | x :: a, y :: b => if x = y then sharedB a b + 1 else 0
  | _, _ => 0
theorem sharedB_le : ∀ (a b : List UInt8), sharedB a b ≤ a.length ∧ sharedB a b ≤ b.length
  | x :: a, y :: b => by
    have ih := sharedB_le a b
    unfold sharedB
    split <;> simp <;> omega
  | [], _ => by simp [sharedB]
  | _ :: _, [] => by simp [sharedB]
theorem sharedB_at : ∀ {a b : List UInt8} {n : Nat}, n ≤ a.length → n ≤ b.length → (∀ i, i < n → a.getD i 0 = b.getD i 0) → (n = a.length ∨ n = b.length ∨ a.getD n 0 ≠ b.getD n 0) → sharedB a b = n
  | [], b, n, h1, _, _, _ => by simp at h1; subst h1; rfl
  | x :: a, [], n, _, h2, _, _ => by simp at h2; subst h2; rfl
  | x :: a, y :: b, 0, _, _, _, h => by
    have : x ≠ y := by
      rcases h with h | h | h
      · simp at h
      · simp at h
      · exact h
    unfold sharedB; rw [if_neg this]
  | x :: a, y :: b, n + 1, h1, h2, he, h => by
    have e0 : x = y := he 0 (by omega)
    have ih := sharedB_at (a := a) (b := b) (n := n) (by simpa using h1) (by simpa using h2) (fun i hi => he (i + 1) (by omega)) (by
      rcases h with h | h | h
      · exact .inl (by simpa using h)
      · exact .inr (.inl (by simpa using h))
      · exact .inr (.inr h))
    unfold sharedB; rw [if_pos e0, ih]
theorem sharedB_comm : ∀ a b : List UInt8, sharedB a b = sharedB b a
  | [], [] => rfl
  | [], _ :: _ => rfl
  | _ :: _, [] => rfl
  | x :: a, y :: b => by
    unfold sharedB
    by_cases e : x = y
    · rw [if_pos e, if_pos e.symm, sharedB_comm a b]
    · rw [if_neg e, if_neg (fun h => e h.symm)]
/-- an entry behind a key -/
def oneB (p : List UInt8) (e : Ent) : List UInt8 := numB (sharedB e.key p) ++ textB (e.key.drop (sharedB e.key p)) ++ tailB e
def bodyB : List UInt8 → List Ent → List UInt8
  | _, [] => []
  | p, e :: L => oneB p e ++ bodyB e.key L
def blkE (L : List Ent) : List UInt8 × Int := if L.all isE = false ∨ L = [] then ([], 10) else if sortedE L = false then ([], 16) else (sealB (bodyB [] L), 0)
theorem blkE_bad {L : List Ent} (h : L.all isE = false) : blkE L = ([], 10) := if_pos (.inl h)
theorem blkE_nil : blkE [] = ([], 10) := if_pos (.inr rfl)
theorem blkE_un {L : List Ent} (h : L.all isE = true) (hn : L ≠ []) (hs : sortedE L = false) : blkE L = ([], 16) := by
  unfold blkE; rw [if_neg (fun e => e.elim (fun e => by rw [h] at e; cases e) hn), if_pos hs]
theorem blkE_ok {L : List Ent} (h : L.all isE = true) (hn : L ≠ []) (hs : sortedE L = true) : blkE L = (sealB (bodyB [] L), 0) := by
  unfold blkE; rw [if_neg (fun e => e.elim (fun e => by rw [h] at e; cases e) hn), if_neg (by rw [hs]; decide)]
theorem tailB_len {e : Ent} (h : isE e = true) : (tailB e).length ≤ 43 := by
  obtain ⟨⟨s1, s2⟩, k1, k2, k3, k4⟩ := isE_iff.1 h
  have l3 := numB_len (n := e.seq.toNat) (by omega)
  have l4 := numB_len (n := e.val.length) (by omega)
  unfold tailB textB
  rw [List.length_append]
  split <;> simp <;> omega
theorem oneB_len {p : List UInt8} {e : Ent} (h : isE e = true) : (oneB p e).length ≤ 80 := by
  have h1 := tailB_len h
  obtain ⟨_, k1, k2, _⟩ := isE_iff.1 h
  have hs := sharedB_le e.key p
  have l3 := numB_len (n := sharedB e.key p) (by omega)
  have l4 := numB_len (n := (e.key.drop (sharedB e.key p)).length) (by rw [List.length_drop]; omega)
  unfold oneB textB
  simp only [List.length_append, List.length_drop] at *
  omega
theorem bodyB_len : ∀ {L : List Ent} {p : List UInt8}, L.all isE = true → (bodyB p L).length ≤ 80 * L.length
  | [], _, _ => by simp [bodyB]
  | e :: L, p, h => by
    rw [List.all_cons, Bool.and_eq_true] at h
    have h1 := oneB_len (p := p) h.1
    have h2 := bodyB_len (p := e.key) h.2
    have e1 : bodyB p (e :: L) = oneB p e ++ bodyB e.key L := rfl
    rw [e1, List.length_append, List.length_cons]; omega
section
variable {p r t : List UInt8} {k i j m : Nat} {e : Int} {x : Ent}
end
section
variable {s b : List UInt8} {n : Nat} {e : Int} {L : List Ent}
end
end Go.Ev

set_option maxRecDepth 1000000
set_option linter.all false
namespace Go.Proofs.Ytiingkpdodbldaa
open Go Go.Ev
noncomputable abbrev s48_0 : CC := (CC.seq (CC.region [(wB 3 (doFieldAddr 1 (tm 1))), (wB 4 (doLoad (tm 3))), (wB 5 (bin2 fGeq (tm 4) (oN 1))), (wB 6 (doMove (tm 5))), (wG 6 true 7 (doFieldAddr 1 (tm 1))), (wG 6 true 8 (doLoad (tm 7))), (wG 6 true 9 (bin2 fLeq (tm 8) (oN 1000000))), (wB 10 (doPick (tm 6) (tm 9) (O.c (V.b Bool.false)))), (wB 11 (doMove (tm 10))), (wG 11 true 12 (doFieldAddr 0 (tm 1))), (wG 11 true 13 (doLoad (tm 12))), (wG 11 true 14 (doFieldAddr 2 (tm 1))), (wG 11 true 15 (doLoad (tm 14))), (wG 11 true 16 (doFieldAddr 3 (tm 1))), (wG 11 true 17 (doLoad (tm 16))), (wG 11 true 18 (doBuild [(V.s 0 0), (V.b Bool.false), (V.s 0 0)] [(Pt.mk 0 1 (tm 13)), (Pt.mk 1 1 (tm 15)), (Pt.mk 2 1 (tm 17))])), (wG 11 true 19 (doCall 71 [(tm 18)])), (wB 20 (doPick (tm 11) (tm 19) (O.c (V.b Bool.false)))), (wB 2 (doMove (tm 20)))]) CC.ret)
noncomputable abbrev b48 : CC := (CC.seq (CC.region [(wB 1 (doBox 34 (tm 0))), (wB 2 (doMove (O.c (V.b Bool.false))))]) s48_0)
theorem c48 : compFn Try.prog 48 = ⟨21, b48, [(Rs.tmp (slOf 2))]⟩ := by kernel_rfl
noncomputable abbrev s72_0 : CC := (CC.seq (CC.region [(wB 10 (doFieldAddr 0 (tm 2))), (wB 11 (doLoad (tm 10))), (wB 12 (doFieldAddr 0 (tm 3))), (wB 13 (doLoad (tm 12))), (wB 14 (doSCmp ltS (tm 11) (tm 13))), (wB 4 (doMove (tm 14)))]) CC.ret)
noncomputable abbrev s72_1 : CC := (CC.cond (tm 9) s72_0 CC.skip)
noncomputable abbrev s72_2 : CC := (CC.seq (CC.region [(wB 5 (doFieldAddr 0 (tm 2))), (wB 6 (doLoad (tm 5))), (wB 7 (doFieldAddr 0 (tm 3))), (wB 8 (doLoad (tm 7))), (wB 9 (doSCmp (fun a b c d => !eqS a b c d) (tm 6) (tm 8)))]) s72_1)
noncomputable abbrev s72_3 : CC := (CC.seq (CC.region [(wB 15 (doFieldAddr 1 (tm 2))), (wB 16 (doLoad (tm 15))), (wB 17 (doFieldAddr 1 (tm 3))), (wB 18 (doLoad (tm 17))), (wB 19 (bin2 fGtr (tm 16) (tm 18))), (wB 4 (doMove (tm 19)))]) CC.ret)
noncomputable abbrev s72_4 : CC := (CC.seq s72_2 s72_3)
noncomputable abbrev b72 : CC := (CC.seq (CC.region [(wB 2 (doBox 34 (tm 0))), (wB 3 (doBox 34 (tm 1))), (wB 4 (doMove (O.c (V.b Bool.false))))]) s72_4)
theorem c72 : compFn Try.prog 72 = ⟨20, b72, [(Rs.tmp (slOf 4))]⟩ := by kernel_rfl
noncomputable abbrev s49_0 : CC := (CC.cond (tm 7) CC.skip (CC.exit 0))
noncomputable abbrev s49_1 : CC := (CC.seq (CC.region [(wB 4 (doMove (tm 3))), (wB 5 (doMove (tm 0))), (wB 6 (doLen (tm 5))), (wB 7 (bin2 fLss (tm 4) (tm 6)))]) s49_0)
noncomputable abbrev s49_2 : CC := (CC.seq (CC.region [(wB 2 (doMove (O.c (V.b Bool.false))))]) CC.ret)
noncomputable abbrev s49_3 : CC := (CC.cond (tm 20) s49_2 CC.skip)
noncomputable abbrev s49_4 : CC := (CC.seq (CC.draws [(uB 10 (doMove (tm 0))), (uB 11 (doMove (tm 3))), (uB 12 (bin2 fSub (tm 11) (oN 1))), (uB 13 (doIndexAddr 4 (tm 10) (tm 12))), (uB 14 (doLoadA 4 (tm 13))), (uB 15 (doMove (tm 0))), (uB 16 (doMove (tm 3))), (uB 17 (doIndexAddr 4 (tm 15) (tm 16))), (uB 18 (doLoadA 4 (tm 17))), (wB 19 (doCall 72 [(tm 14), (tm 18)])), (uB 20 (doNot (tm 19)))]) s49_3)
noncomputable abbrev s49_5 : CC := (CC.block 1 s49_4)
noncomputable abbrev s49_6 : CC := (CC.region [(wB 8 (doMove (tm 3))), (wB 9 (bin2 fAdd (tm 8) (oN 1))), (wB 3 (doMove (tm 9)))])
noncomputable abbrev s49_7 : CC := (CC.seq s49_5 s49_6)
noncomputable abbrev l49_0 : CC := (CC.seq s49_1 s49_7)
noncomputable abbrev s49_8 : CC := (CC.loop l49_0)
noncomputable abbrev s49_9 : CC := (CC.block 0 s49_8)
noncomputable abbrev s49_10 : CC := (CC.seq (CC.region [(wB 3 (doMove (oN 1)))]) s49_9)
noncomputable abbrev s49_11 : CC := (CC.seq (CC.region [(wB 2 (doMove (O.c (V.b Bool.true))))]) CC.ret)
noncomputable abbrev s49_12 : CC := (CC.seq s49_10 s49_11)
noncomputable abbrev b49 : CC := (CC.seq (CC.region [(wB 2 (doMove (O.c (V.b Bool.false))))]) s49_12)
theorem c49 : compFn Try.prog 49 = ⟨21, b49, [(Rs.tmp (slOf 2))]⟩ := by kernel_rfl
noncomputable abbrev s74_0 : CC := (CC.seq (CC.region [(wB 2 (doMove (O.c (V.s 0 0))))]) CC.ret)
noncomputable abbrev s74_1 : CC := (CC.cond (tm 6) s74_0 CC.skip)
noncomputable abbrev s74_2 : CC := (CC.seq (CC.region [(wB 4 (doLoadA 4 (tm 1))), (wB 5 (doCall 48 [(tm 4)])), (wB 6 (doNot (tm 5)))]) s74_1)
noncomputable abbrev s74_3 : CC := (CC.seq (CC.region [(wB 16 (doMove (tm 3))), (wB 17 (doBuildSlice 5 1 [(V.i IntKind.u8 (Int.ofNat 0))] [(Pt.mk 0 1 (O.c (V.i IntKind.u8 (Int.ofNat 1))))])), (wB 18 (doB2S (tm 17))), (wB 19 (doConcat (tm 16) (tm 18))), (wB 2 (doMove (tm 19)))]) CC.ret)
noncomputable abbrev s74_4 : CC := (CC.cond (tm 15) s74_3 CC.skip)
noncomputable abbrev s74_5 : CC := (CC.seq (CC.region [(wB 14 (doFieldAddr 2 (tm 1))), (wB 15 (doLoad (tm 14)))]) s74_4)
noncomputable abbrev s74_6 : CC := (CC.seq (CC.draws [(uB 20 (doMove (tm 3))), (uB 21 (doBuildSlice 5 1 [(V.i IntKind.u8 (Int.ofNat 0))] [(Pt.mk 0 1 (O.c (V.i IntKind.u8 (Int.ofNat 0))))])), (uB 22 (doB2S (tm 21))), (uB 23 (doConcat (tm 20) (tm 22))), (uB 24 (doFieldAddr 3 (tm 1))), (uB 25 (doLoad (tm 24))), (uB 26 (doCall 55 [(tm 25)])), (uB 27 (doConcat (tm 23) (tm 26))), (uB 2 (doMove (tm 27)))]) CC.ret)
noncomputable abbrev s74_7 : CC := (CC.seq s74_5 s74_6)
noncomputable abbrev s74_8 : CC := (CC.seq (CC.draws [(uB 7 (doFieldAddr 0 (tm 1))), (uB 8 (doLoad (tm 7))), (uB 9 (doCall 55 [(tm 8)])), (uB 10 (doFieldAddr 1 (tm 1))), (uB 11 (doLoad (tm 10))), (wB 12 (doCall 53 [(tm 11)])), (uB 13 (doConcat (tm 9) (tm 12))), (uB 3 (doMove (tm 13)))]) s74_7)
noncomputable abbrev s74_9 : CC := (CC.seq s74_2 s74_8)
noncomputable abbrev b74 : CC := (CC.seq (CC.region [(wB 1 (doBox 34 (tm 0))), (wB 2 (doMove (O.c (V.s 0 0))))]) s74_9)
theorem c74 : compFn Try.prog 74 = ⟨28, b74, [(Rs.tmp (slOf 2))]⟩ := by kernel_rfl
noncomputable abbrev s71_0 : CC := (CC.seq (CC.region [(wB 2 (doMove (O.c (V.b Bool.false))))]) CC.ret)
noncomputable abbrev s71_1 : CC := (CC.cond (tm 12) s71_0 CC.skip)
noncomputable abbrev s71_2 : CC := (CC.seq (CC.region [(wB 3 (doFieldAddr 0 (tm 1))), (wB 4 (doLoad (tm 3))), (wB 5 (doLenS (tm 4))), (wB 6 (bin2 fLss (tm 5) (oN 1))), (wB 7 (doMove (tm 6))), (wG 7 false 8 (doFieldAddr 0 (tm 1))), (wG 7 false 9 (doLoad (tm 8))), (wG 7 false 10 (doLenS (tm 9))), (wG 7 false 11 (bin2 fGtr (tm 10) (oN 13))), (wB 12 (doPick (tm 7) (O.c (V.b Bool.true)) (tm 11)))]) s71_1)
noncomputable abbrev s71_3 : CC := (CC.seq (CC.region [(wB 15 (doFieldAddr 2 (tm 1))), (wB 16 (doLoad (tm 15))), (wB 17 (doSCmp eqS (tm 16) (O.c (V.s 0 0)))), (wB 2 (doMove (tm 17)))]) CC.ret)
noncomputable abbrev s71_4 : CC := (CC.cond (tm 14) s71_3 CC.skip)
noncomputable abbrev s71_5 : CC := (CC.seq (CC.region [(wB 13 (doFieldAddr 1 (tm 1))), (wB 14 (doLoad (tm 13)))]) s71_4)
noncomputable abbrev s71_6 : CC := (CC.seq (CC.region [(wB 18 (doFieldAddr 2 (tm 1))), (wB 19 (doLoad (tm 18))), (wB 20 (doLenS (tm 19))), (wB 21 (bin2 fLeq (tm 20) (oN 24))), (wB 2 (doMove (tm 21)))]) CC.ret)
noncomputable abbrev s71_7 : CC := (CC.seq s71_5 s71_6)
noncomputable abbrev s71_8 : CC := (CC.seq s71_2 s71_7)
noncomputable abbrev b71 : CC := (CC.seq (CC.region [(wB 1 (doBox 108 (tm 0))), (wB 2 (doMove (O.c (V.b Bool.false))))]) s71_8)
theorem c71 : compFn Try.prog 71 = ⟨22, b71, [(Rs.tmp (slOf 2))]⟩ := by kernel_rfl
end Go.Proofs.Ytiingkpdodbldaa

set_option maxRecDepth 1000000
set_option linter.all false
namespace Go.Proofs.Ytiingkpdodbldaa
open Go Go.Ev
noncomputable abbrev s53_0 : CC := (CC.cond (tm 7) CC.skip (CC.exit 0))
noncomputable abbrev s53_1 : CC := (CC.seq (CC.region [(wB 6 (doMove (tm 0))), (wB 7 (bin2 fGtr (tm 6) (oN 0)))]) s53_0)
noncomputable abbrev s53_2 : CC := (CC.region [(wB 12 (doMove (tm 4))), (wB 13 (doMove (tm 0))), (wB 14 (doConv IntKind.u8 (tm 13))), (wB 15 (doIndexAddrArr 9 1 (tm 3) (tm 12))), (CO.mk G.none D.none Bool.true (CR.mk (doStore 1 (tm 15) (tm 14))))])
noncomputable abbrev s53_3 : CC := (CC.seq (CC.region [(wB 10 (doMove (tm 4))), (wB 11 (bin2 fSub (tm 10) (oN 1))), (wB 4 (doMove (tm 11)))]) s53_2)
noncomputable abbrev s53_4 : CC := (CC.block 1 s53_3)
noncomputable abbrev s53_5 : CC := (CC.region [(wB 8 (doMove (tm 0))), (wB 9 (doShift shrF (tm 8) (O.c (V.i IntKind.u64 (Int.ofNat 8))))), (wB 0 (doMove (tm 9)))])
noncomputable abbrev s53_6 : CC := (CC.seq s53_4 s53_5)
noncomputable abbrev l53_0 : CC := (CC.seq s53_1 s53_6)
noncomputable abbrev s53_7 : CC := (CC.loop l53_0)
noncomputable abbrev s53_8 : CC := (CC.block 0 s53_7)
noncomputable abbrev s53_9 : CC := (CC.seq (CC.region [(wB 24 (doMove (tm 4))), (wB 25 (doSliceArr 9 1 (tm 3) (some (tm 24)) none)), (wB 26 (doB2S (tm 25))), (wB 2 (doMove (tm 26)))]) CC.ret)
noncomputable abbrev s53_10 : CC := (CC.seq (CC.region [(wB 20 (doMove (tm 4))), (wB 21 (doMove (tm 5))), (wB 22 (doConv IntKind.u8 (tm 21))), (wB 23 (doIndexAddrArr 9 1 (tm 3) (tm 20))), (CO.mk G.none D.none Bool.true (CR.mk (doStore 1 (tm 23) (tm 22))))]) s53_9)
noncomputable abbrev s53_11 : CC := (CC.seq (CC.region [(wB 18 (doMove (tm 4))), (wB 19 (bin2 fSub (tm 18) (oN 1))), (wB 4 (doMove (tm 19)))]) s53_10)
noncomputable abbrev s53_12 : CC := (CC.seq (CC.region [(wB 16 (doMove (tm 4))), (wB 17 (bin2 fSub (oN 9) (tm 16))), (wB 5 (doMove (tm 17)))]) s53_11)
noncomputable abbrev s53_13 : CC := (CC.seq s53_8 s53_12)
noncomputable abbrev s53_14 : CC := (CC.seq (CC.region [(wB 4 (doMove (oN 9)))]) s53_13)
noncomputable abbrev s53_15 : CC := (CC.seq (CC.region [(wB 3 (doAlloc 111 [(V.i IntKind.u8 (Int.ofNat 0)), (V.i IntKind.u8 (Int.ofNat 0)), (V.i IntKind.u8 (Int.ofNat 0)), (V.i IntKind.u8 (Int.ofNat 0)), (V.i IntKind.u8 (Int.ofNat 0)), (V.i IntKind.u8 (Int.ofNat 0)), (V.i IntKind.u8 (Int.ofNat 0)), (V.i IntKind.u8 (Int.ofNat 0)), (V.i IntKind.u8 (Int.ofNat 0))]))]) s53_14)
noncomputable abbrev b53 : CC := (CC.seq (CC.region [(wB 2 (doMove (O.c (V.s 0 0))))]) s53_15)
theorem c53 : compFn Try.prog 53 = ⟨27, b53, [(Rs.tmp (slOf 2))]⟩ := by kernel_rfl
noncomputable abbrev s64_0 : CC := (CC.seq (CC.region [(wB 2 (doMove (oN 0))), (wB 3 (doMove (oN 0))), (wB 4 (doMove (oN 12)))]) CC.ret)
noncomputable abbrev s64_1 : CC := (CC.cond (tm 10) s64_0 CC.skip)
noncomputable abbrev s64_2 : CC := (CC.seq (CC.region [(wB 9 (doMove (tm 0))), (wB 10 (doSCmp eqS (tm 9) (O.c (V.s 0 0))))]) s64_1)
noncomputable abbrev s64_3 : CC := (CC.seq (CC.region [(wB 2 (doMove (oN 0))), (wB 3 (doMove (oN 0))), (wB 4 (doMove (oN 10)))]) CC.ret)
noncomputable abbrev s64_4 : CC := (CC.cond (tm 15) s64_3 CC.skip)
noncomputable abbrev s64_5 : CC := (CC.seq (CC.region [(wB 14 (doMove (tm 5))), (wB 15 (bin2 fGtr (tm 14) (oN 8)))]) s64_4)
noncomputable abbrev s64_6 : CC := (CC.seq (CC.region [(wB 2 (doMove (oN 0))), (wB 3 (doMove (oN 0))), (wB 4 (doMove (oN 12)))]) CC.ret)
noncomputable abbrev s64_7 : CC := (CC.cond (tm 21) s64_6 CC.skip)
noncomputable abbrev s64_8 : CC := (CC.seq (CC.region [(wB 18 (doMove (tm 6))), (wB 19 (doMove (tm 0))), (wB 20 (doLenS (tm 19))), (wB 21 (bin2 fGtr (tm 18) (tm 20)))]) s64_7)
noncomputable abbrev s64_9 : CC := (CC.seq (CC.region [(wB 2 (doMove (oN 0))), (wB 3 (doMove (oN 0))), (wB 4 (doMove (oN 10)))]) CC.ret)
noncomputable abbrev s64_10 : CC := (CC.cond (tm 30) s64_9 CC.skip)
noncomputable abbrev s64_11 : CC := (CC.seq (CC.region [(wB 29 (doMove (tm 8))), (wB 30 (doNot (tm 29)))]) s64_10)
noncomputable abbrev s64_12 : CC := (CC.seq (CC.region [(wB 31 (doMove (tm 7))), (wB 32 (doMove (tm 6))), (wB 2 (doMove (tm 31))), (wB 3 (doMove (tm 32))), (wB 4 (doMove (oN 0)))]) CC.ret)
noncomputable abbrev s64_13 : CC := (CC.seq s64_11 s64_12)
noncomputable abbrev s64_14 : CC := (CC.seq (CC.region [(wB 23 (doMove (tm 0))), (wB 24 (doMove (tm 6))), (wB 25 (doSSlice (tm 23) (some (oN 1)) (some (tm 24)))), (wB 26 (doCall 79 [(tm 25)])), (wB 22 (doMove (tm 26))), (wB 27 (doExtract 0 (tm 22))), (wB 28 (doExtract 1 (tm 22))), (wB 7 (doMove (tm 27))), (wB 8 (doMove (tm 28)))]) s64_13)
noncomputable abbrev s64_15 : CC := (CC.seq s64_8 s64_14)
noncomputable abbrev s64_16 : CC := (CC.seq (CC.region [(wB 16 (doMove (tm 5))), (wB 17 (bin2 fAdd (oN 1) (tm 16))), (wB 6 (doMove (tm 17)))]) s64_15)
noncomputable abbrev s64_17 : CC := (CC.seq s64_5 s64_16)
noncomputable abbrev s64_18 : CC := (CC.seq (CC.region [(wB 11 (doMove (tm 0))), (wB 12 (doSIndex (tm 11) (oN 0))), (wB 13 (doConv IntKind.i64 (tm 12))), (wB 5 (doMove (tm 13)))]) s64_17)
noncomputable abbrev s64_19 : CC := (CC.seq s64_2 s64_18)
noncomputable abbrev b64 : CC := (CC.seq (CC.region [(wB 2 (doMove (oN 0))), (wB 3 (doMove (oN 0))), (wB 4 (doMove (oN 0)))]) s64_19)
theorem c64 : compFn Try.prog 64 = ⟨33, b64, [(Rs.tmp (slOf 2)), (Rs.tmp (slOf 3)), (Rs.tmp (slOf 4))]⟩ := by kernel_rfl
noncomputable abbrev s79_0 : CC := (CC.cond (tm 10) CC.skip (CC.exit 0))
noncomputable abbrev s79_1 : CC := (CC.seq (CC.region [(wB 7 (doMove (tm 5))), (wB 8 (doMove (tm 0))), (wB 9 (doLenS (tm 8))), (wB 10 (bin2 fLss (tm 7) (tm 9)))]) s79_0)
noncomputable abbrev s79_2 : CC := (CC.cond (tm 22) (CC.exit 0) CC.skip)
noncomputable abbrev s79_3 : CC := (CC.seq (CC.region [(wB 23 (doMove (tm 4))), (wB 24 (bin2 fGtr (tm 23) (oN 36028797018963967))), (wB 22 (doMove (tm 24)))]) s79_2)
noncomputable abbrev s79_4 : CC := (CC.cond (tm 15) (CC.exit 0) s79_3)
noncomputable abbrev s79_5 : CC := (CC.seq (CC.region [(wB 16 (doMove (tm 5))), (wB 17 (bin2 fEql (tm 16) (oN 0))), (wB 18 (doMove (tm 17))), (wG 18 true 19 (doMove (tm 6))), (wG 18 true 20 (bin2 fEql (tm 19) (oN 0))), (wB 21 (doPick (tm 18) (tm 20) (O.c (V.b Bool.false)))), (wB 15 (doMove (tm 21)))]) s79_4)
noncomputable abbrev s79_6 : CC := (CC.block 2 s79_5)
noncomputable abbrev s79_7 : CC := (CC.region [(wB 29 (doMove (tm 5))), (wB 30 (bin2 fAdd (tm 29) (oN 1))), (wB 5 (doMove (tm 30)))])
noncomputable abbrev s79_8 : CC := (CC.seq (CC.region [(wB 25 (doMove (tm 4))), (wB 26 (doShift shlF (tm 25) (O.c (V.i IntKind.u64 (Int.ofNat 8))))), (wB 27 (doMove (tm 6))), (wB 28 (bin2 fOr (tm 26) (tm 27))), (wB 4 (doMove (tm 28)))]) s79_7)
noncomputable abbrev s79_9 : CC := (CC.seq s79_6 s79_8)
noncomputable abbrev s79_10 : CC := (CC.seq (CC.region [(wB 11 (doMove (tm 0))), (wB 12 (doMove (tm 5))), (wB 13 (doSIndex (tm 11) (tm 12))), (wB 14 (doConv IntKind.i64 (tm 13))), (wB 6 (doMove (tm 14)))]) s79_9)
noncomputable abbrev s79_11 : CC := (CC.block 1 s79_10)
noncomputable abbrev l79_0 : CC := (CC.seq s79_1 s79_11)
noncomputable abbrev s79_12 : CC := (CC.loop l79_0)
noncomputable abbrev s79_13 : CC := (CC.block 0 s79_12)
noncomputable abbrev s79_14 : CC := (CC.seq (CC.region [(wB 2 (doMove (oN 0))), (wB 3 (doMove (O.c (V.b Bool.false))))]) CC.ret)
noncomputable abbrev s79_15 : CC := (CC.cond (tm 34) s79_14 CC.skip)
noncomputable abbrev s79_16 : CC := (CC.seq (CC.region [(wB 31 (doMove (tm 5))), (wB 32 (doMove (tm 0))), (wB 33 (doLenS (tm 32))), (wB 34 (bin2 fLss (tm 31) (tm 33)))]) s79_15)
noncomputable abbrev s79_17 : CC := (CC.seq (CC.region [(wB 35 (doMove (tm 4))), (wB 2 (doMove (tm 35))), (wB 3 (doMove (O.c (V.b Bool.true))))]) CC.ret)
noncomputable abbrev s79_18 : CC := (CC.seq s79_16 s79_17)
noncomputable abbrev s79_19 : CC := (CC.seq s79_13 s79_18)
noncomputable abbrev s79_20 : CC := (CC.seq CC.skip s79_19)
noncomputable abbrev s79_21 : CC := (CC.seq (CC.region [(wB 4 (doMove (oN 0))), (wB 5 (doMove (oN 0)))]) s79_20)
noncomputable abbrev b79 : CC := (CC.seq (CC.region [(wB 2 (doMove (oN 0))), (wB 3 (doMove (O.c (V.b Bool.false))))]) s79_21)
theorem c79 : compFn Try.prog 79 = ⟨36, b79, [(Rs.tmp (slOf 2)), (Rs.tmp (slOf 3))]⟩ := by kernel_rfl
noncomputable abbrev s55_0 : CC := (CC.seq (CC.region [(wB 3 (doMove (tm 0))), (wB 4 (doLenS (tm 3))), (wB 5 (doCall 53 [(tm 4)])), (wB 6 (doMove (tm 0))), (wB 7 (doConcat (tm 5) (tm 6))), (wB 2 (doMove (tm 7)))]) CC.ret)
noncomputable abbrev b55 : CC := (CC.seq (CC.region [(wB 2 (doMove (O.c (V.s 0 0))))]) s55_0)
theorem c55 : compFn Try.prog 55 = ⟨8, b55, [(Rs.tmp (slOf 2))]⟩ := by kernel_rfl
noncomputable abbrev s82_0 : CC := (CC.seq (CC.region [(wB 17 (doMove (tm 7))), (wB 2 (doMove (O.c (V.s 0 0)))), (wB 3 (doMove (oN 0))), (wB 4 (doMove (tm 17)))]) CC.ret)
noncomputable abbrev s82_1 : CC := (CC.cond (tm 16) s82_0 CC.skip)
noncomputable abbrev s82_2 : CC := (CC.seq (CC.region [(wB 15 (doMove (tm 7))), (wB 16 (bin2 fNeq (tm 15) (oN 0)))]) s82_1)
noncomputable abbrev s82_3 : CC := (CC.seq (CC.region [(wB 2 (doMove (O.c (V.s 0 0)))), (wB 3 (doMove (oN 0))), (wB 4 (doMove (oN 12)))]) CC.ret)
noncomputable abbrev s82_4 : CC := (CC.cond (tm 24) s82_3 CC.skip)
noncomputable abbrev s82_5 : CC := (CC.seq (CC.region [(wB 21 (doMove (tm 5))), (wB 22 (doMove (tm 8))), (wB 23 (doLenS (tm 22))), (wB 24 (bin2 fGtr (tm 21) (tm 23)))]) s82_4)
noncomputable abbrev s82_6 : CC := (CC.seq (CC.region [(wB 25 (doMove (tm 8))), (wB 26 (doMove (tm 5))), (wB 27 (doSSlice (tm 25) none (some (tm 26)))), (wB 28 (doMove (tm 6))), (wB 29 (doMove (tm 5))), (wB 30 (bin2 fAdd (tm 28) (tm 29))), (wB 2 (doMove (tm 27))), (wB 3 (doMove (tm 30))), (wB 4 (doMove (oN 0)))]) CC.ret)
noncomputable abbrev s82_7 : CC := (CC.seq s82_5 s82_6)
noncomputable abbrev s82_8 : CC := (CC.seq (CC.region [(wB 18 (doMove (tm 0))), (wB 19 (doMove (tm 6))), (wB 20 (doSSlice (tm 18) (some (tm 19)) none)), (wB 8 (doMove (tm 20)))]) s82_7)
noncomputable abbrev s82_9 : CC := (CC.seq s82_2 s82_8)
noncomputable abbrev s82_10 : CC := (CC.seq (CC.region [(wB 10 (doMove (tm 0))), (wB 11 (doCall 64 [(tm 10)])), (wB 9 (doMove (tm 11))), (wB 12 (doExtract 0 (tm 9))), (wB 13 (doExtract 1 (tm 9))), (wB 14 (doExtract 2 (tm 9))), (wB 5 (doMove (tm 12))), (wB 6 (doMove (tm 13))), (wB 7 (doMove (tm 14)))]) s82_9)
noncomputable abbrev b82 : CC := (CC.seq (CC.region [(wB 2 (doMove (O.c (V.s 0 0)))), (wB 3 (doMove (oN 0))), (wB 4 (doMove (oN 0)))]) s82_10)
theorem c82 : compFn Try.prog 82 = ⟨31, b82, [(Rs.tmp (slOf 2)), (Rs.tmp (slOf 3)), (Rs.tmp (slOf 4))]⟩ := by kernel_rfl
end Go.Proofs.Ytiingkpdodbldaa

namespace Go.Proofs.Ytiingkpdodbldaa
open Go Go.Ev
theorem hmix : Try.prog.follows .mixedOrders = true := by kernel_rfl
open Go.Ev in
instance {nt : Nat} {t : F} {h : H} {K : X → F → H → Prop} {l : List CO} : St (Ok Try.prog nt (.draws l) t h K) (DO Try.prog l t h (K .normal)) := ⟨Ok.dw hmix⟩
end Go.Proofs.Ytiingkpdodbldaa

set_option maxRecDepth 100000
set_option maxHeartbeats 8000000
set_option linter.all false
namespace Go.Proofs.Ytiingkpdodbldaa
open Go Go.Ev
theorem or_add {n d : Nat} (h : d < 256) : n * 2 ^ 8 ||| d = n * 256 + d := by
  have := Nat.two_pow_add_eq_or_of_lt (i := 8) (b := d) (by omega) n
  rw [Nat.mul_comm n, ← this]
theorem pk_ge (l : List UInt8) (i : Nat) (h : i ≤ l.length) : pk (l.take i) * 256 ^ (l.length - i) ≤ pk l := by
  have e := pk_append (l.take i) (l.drop i)
  rw [List.take_append_drop, List.length_drop] at e
  omega
theorem pk_bad {l : List UInt8} {i : Nat} (h8 : l.length ≤ 8) (hi : i < l.length) (h : 36028797018963967 < pk (l.take i)) : 9223372036854775808 ≤ pk l := by
  have h1 := pk_ge l i (by omega)
  have h2 : 256 ≤ 256 ^ (l.length - i) := by
    have := Nat.pow_le_pow_right (n := 256) (by omega) (show 1 ≤ l.length - i by omega)
    simpa using this
  have h3 := Nat.mul_le_mul (show 36028797018963968 ≤ pk (l.take i) by omega) h2
  omega
theorem head_zero {l : List UInt8} (h : (l.getD 0 0).toNat = 0) (h0 : 0 < l.length) : l.head? = some 0 := by
  cases l with
  | nil => simp at h0
  | cons c r => have : c = 0 := UInt8.toNat_inj.1 h
                rw [this]; rfl
theorem head_pos {l : List UInt8} (h : ¬ (l.getD 0 0).toNat = 0) : l.head? ≠ some 0 := by
  cases l with
  | nil => simp
  | cons c r => intro h0; have : c = 0 := by simpa using h0
                subst this; exact h rfl
theorem number_ok {h : H} {l : List UInt8} (h8 : l.length ≤ 8) : FnOk Try.prog 79 [sv l] h fun y h' => y = numR l ∧ h' = h := by
  refine fn_go c79 (by intro hb; cases hb) (by simp) (by simp) fun Q hQ => ?_
  simp only [slotsF, Nat.reduceAdd]
  repeat' (first
    | refine St.h ?_
    | simp (disch := first | omega | (simp only [lnv]; omega)) only [wlk, ↓get_put', ↓reduceIte, seval]
    | (with_reducible (first | apply cd_split | apply gd_split)) <;> (intro hc; (try simp only [hcn] at hc); (try simp only [hc]); (try simp only [hcl] at hc); try omega))
  refine Ok.lp (fun m t g => ∃ i : Nat, i ≤ l.length ∧ m = l.length - i ∧ g = h ∧ get 0 t = sv l ∧ get 4 t = .i .i64 ((pk (l.take i) : Nat) : Int) ∧ get 5 t = .i .i64 (i : Int) ∧ (0 < i → l.head? ≠ some 0) ∧ pk (l.take i) ≤ 9223372036854775807) l.length ?_ ?_
  · simp (disch := first | omega | (simp only [lnv]; omega)) only [wlk, ↓get_put', ↓reduceIte, seval]
    exact ⟨0, by omega, rfl, trivial, trivial, rfl, rfl, fun h => absurd h (by omega), by simp [pk]⟩
  · rintro I hI m t g ⟨i, hi', rfl, rfl, f0, f4, f5, hF, hV⟩
    have hgd := (l.getD i 0).toNat_lt
    repeat' (first
      | refine St.h ?_
      | simp (disch := first | omega | (simp only [lnv]; omega)) only [wlk, ↓get_put', ↓reduceIte, seval, *]
      | (with_reducible (first | apply cd_split | apply gd_split)) <;> (intro hc; (try simp only [hcn] at hc); (try simp only [hc]); (try simp only [hcl] at hc); try omega))
    · obtain rfl : i = 0 := by omega
      exact ⟨(numR_bad (.inl (head_zero (by omega) (by omega)))).symm, trivial⟩
    · exact ⟨(numR_bad (.inr (pk_bad h8 (by omega) (by omega : 36028797018963967 < pk (l.take i))))).symm, trivial⟩
    · obtain rfl : i = 0 := by omega
      have n1 : ((pk (l.take 0) : Int) * 256).toNat ||| (l.getD 0 0).toNat = pk (l.take 1) := by
        rw [show ((pk (l.take 0) : Int) * 256).toNat = pk (l.take 0) * 2 ^ 8 by omega, or_add (by omega), pk_take (by omega)]
      have n2 : pk (l.take 1) ≤ 9223372036854775807 := by rw [pk_take (by omega)]; omega
      refine lp_next hI (l.length - (0 + 1)) (by omega) ⟨0 + 1, by omega, rfl, rfl, ?_, ?_, ?_, fun _ => head_pos (by omega), n2⟩
      · simp (disch := first | omega | (simp only [lnv]; omega)) only [wlk, ↓get_put', ↓reduceIte, seval, *]
      · simp (disch := first | omega | (simp only [lnv]; omega)) only [wlk, ↓get_put', ↓reduceIte, seval, *]
      · simp (disch := first | omega | (simp only [lnv]; omega)) only [wlk, ↓get_put', ↓reduceIte, seval, *]
    · exact ⟨(numR_bad (.inr (pk_bad h8 (by omega) (by omega : 36028797018963967 < pk (l.take i))))).symm, trivial⟩
    · have n1 : ((pk (l.take i) : Int) * 256).toNat ||| (l.getD i 0).toNat = pk (l.take (i + 1)) := by
        rw [show ((pk (l.take i) : Int) * 256).toNat = pk (l.take i) * 2 ^ 8 by omega, or_add (by omega), pk_take (by omega)]
      have n2 : pk (l.take (i + 1)) ≤ 9223372036854775807 := by rw [pk_take (by omega)]; omega
      refine lp_next hI (l.length - (i + 1)) (by omega) ⟨i + 1, by omega, rfl, rfl, ?_, ?_, ?_, fun _ => hF (by omega), n2⟩
      · simp (disch := first | omega | (simp only [lnv]; omega)) only [wlk, ↓get_put', ↓reduceIte, seval, *]
      · simp (disch := first | omega | (simp only [lnv]; omega)) only [wlk, ↓get_put', ↓reduceIte, seval, *]
      · simp (disch := first | omega | (simp only [lnv]; omega)) only [wlk, ↓get_put', ↓reduceIte, seval, *]; rfl
    · have : i = l.length := by omega
      subst this
      rw [List.take_length] at *
      refine ⟨(numR_ok ?_).symm, trivial⟩
      rintro (h1 | h1)
      · cases l with
        | nil => cases h1
        | cons c r => exact hF (by simp) h1
      · omega
theorem takeNum_ok {h : H} {l : List UInt8} (hl : l.length ≤ 1000000) : FnOk Try.prog 64 [sv l] h fun y h' => y = tri (takeN l) ∧ h' = h := by
  refine fn_go c64 (by intro hb; cases hb) (by simp) (by simp) fun Q hQ => ?_
  simp only [slotsF, Nat.reduceAdd]
  cases l with
  | nil =>
    repeat' (first
      | refine St.h ?_
      | simp (disch := first | omega | (simp only [lnv]; omega)) only [wlk, ↓get_put', ↓reduceIte, seval, *]
      | (with_reducible (first | apply cd_split | apply gd_split)) <;> (intro hc; (try simp only [hcn] at hc); (try simp only [hc]); (try simp only [hcl] at hc); try omega))
    exact ⟨rfl, trivial⟩
  | cons w r =>
  have hlen : (w :: r).length = r.length + 1 := rfl
  have hw := w.toNat_lt
  have hgd : (w :: r).getD 0 0 = w := rfl
  have d0 : (w :: r = []) = False := by simp
  repeat' (first
    | refine St.h ?_
    | simp (disch := first | omega | (simp only [lnv]; omega)) only [wlk, ↓get_put', ↓reduceIte, seval, *]
    | (with_reducible (first | apply cd_split | apply gd_split)) <;> (intro hc; (try simp only [hcn] at hc); (try simp only [hc]); (try simp only [hcl] at hc); try omega))
  · exact ⟨by rw [takeN_big (by omega)]; rfl, trivial⟩
  · exact ⟨by rw [takeN_short (by omega) (by omega)]; rfl, trivial⟩
  have hsl : ((w :: r).take (1 + (w.toNat : Int)).toNat).drop 1 = r.take w.toNat := by
    rw [show (1 + (w.toNat : Int)).toNat = w.toNat + 1 by omega]; simp
  rw [hsl]
  refine CL.mk (number_ok (by rw [List.length_take]; omega)) ?_
  rintro _ _ ⟨rfl, rfl⟩
  by_cases hb : badD (r.take w.toNat)
  · rw [numR_bad hb]
    repeat' (first
      | refine St.h ?_
      | simp (disch := first | omega | (simp only [lnv]; omega)) only [wlk, ↓get_put', ↓reduceIte, seval, *]
      | (with_reducible (first | apply cd_split | apply gd_split)) <;> (intro hc; (try simp only [hcn] at hc); (try simp only [hc]); (try simp only [hcl] at hc); try omega))
    exact ⟨by rw [takeN_bad (by omega) (by omega) hb]; rfl, trivial⟩
  · rw [numR_ok hb]
    repeat' (first
      | refine St.h ?_
      | simp (disch := first | omega | (simp only [lnv]; omega)) only [wlk, ↓get_put', ↓reduceIte, seval, *]
      | (with_reducible (first | apply cd_split | apply gd_split)) <;> (intro hc; (try simp only [hcn] at hc); (try simp only [hc]); (try simp only [hcl] at hc); try omega))
    refine ⟨?_, trivial⟩
    rw [takeN_ok (by omega) (by omega) hb, show (1 : Int) + (w.toNat : Int) = ((w.toNat + 1 : Nat) : Int) by omega]; rfl
theorem num_ok {h : H} {n : Int} (hn : n ≤ 9223372036854775807) (hf : B.val h.floor ≤ B.val h.next) : FnOk Try.prog 53 [.i .i64 n] h fun y h' => y = sv (numB n.toNat) ∧ Stay nowhere h h' := by
  refine fn_go c53 (by intro hb; cases hb) (by simp) (by simp) fun Q hQ => ?_
  simp only [slotsF, Nat.reduceAdd]
  have hN : n.toNat ≤ 9223372036854775807 := by omega
  have h8 := digs_len8 hN
  repeat' (first
    | refine St.h ?_
    | simp (disch := first | omega | (simp only [lnv]; omega)) only [wlk, ↓get_put', ↓reduceIte, seval]
    | (with_reducible (first | apply cd_split | apply gd_split)) <;> (intro hc; (try simp only [hcn] at hc); (try simp only [hc]); (try simp only [hcl] at hc); try omega))
  refine AL.own (by simp) hf fun h1 s1 n1 o1 => ?_
  repeat' (first
    | refine St.h ?_
    | simp (disch := first | omega | (simp only [lnv]; omega)) only [wlk, ↓get_put', ↓reduceIte, seval, List.length_cons, List.length_nil]
    | (with_reducible (first | apply cd_split | apply gd_split)) <;> (intro hc; (try simp only [hcn] at hc); (try simp only [hc]); (try simp only [hcl] at hc); try omega))
  refine Ok.lp (fun m t g => ∃ (z : Int) (d : List UInt8) (xs : List V), m = z.toNat ∧ z.toNat ≤ 9223372036854775807 ∧ digs z.toNat ++ d = digs n.toNat ∧ get 0 t = .i .i64 z ∧ get 3 t = .p h.next 0 0 9 ∧ get 4 t = .i .i64 ((9 - d.length : Nat) : Int) ∧ Ev.Own g h.next xs ∧ xs.length = 9 ∧ xs.drop (9 - d.length) = d.map bv ∧ Stay nowhere h g) n.toNat ?_ ?_
  · simp (disch := first | omega | (simp only [lnv]; omega)) only [wlk, ↓get_put', ↓reduceIte, seval]
    refine ⟨n, [], _, rfl, hN, by simp, rfl, trivial, rfl, o1, rfl, rfl, s1⟩
  rintro I hI m t g ⟨z, d, xs, rfl, hz, hD, f0, f3, f4, o, hx, hxd, st⟩
  have hdl : (digs z.toNat).length + d.length ≤ 8 := by rw [← List.length_append, hD]; exact h8
  have ea2 : (((9 - d.length : Nat) : Int) - 1) = ((8 - d.length : Nat) : Int) := by omega
  have ew : (9 : Int) - ((9 - d.length : Nat) : Int) = (d.length : Int) := by omega
  repeat' (first
    | refine St.h ?_
    | simp (disch := first | omega | (simp only [lnv]; omega)) only [wlk, ↓get_put', ↓reduceIte, seval, f0, f3, f4, hQ, ea2, ew, wrap_u8m]
    | (with_reducible (first | apply cd_split | apply gd_split)) <;> (intro hc; (try simp only [hcn] at hc); (try simp only [hc]); (try simp only [hcl] at hc); try omega))
  · obtain ⟨c, rfl⟩ := Int.eq_ofNat_of_zero_le (by omega : 0 ≤ z)
    rw [Int.toNat_natCast] at hD hdl hz
    have hc0 : c ≠ 0 := by omega
    have hdp := digs_pos hc0
    have hd1 : (digs c).length = (digs (c / 256)).length + 1 := by rw [hdp]; simp
    refine ST.own (y := bv (UInt8.ofNat (c % 256))) o (by rw [← bv_ofNat]; simp; rfl) rfl (by omega) (by omega) fun g' o' s' => ?_
    repeat' (first
      | refine St.h ?_
      | simp (disch := first | omega | (simp only [lnv]; omega)) only [wlk, ↓get_put', ↓reduceIte, seval, f0, f3, f4, ea2]
      | (with_reducible (first | apply cd_split | apply gd_split)) <;> (intro hc; (try simp only [hcn] at hc); (try simp only [hc]); (try simp only [hcl] at hc); try omega))
    have hdrop : (xs.set (8 - d.length) (bv (UInt8.ofNat (c % 256)))).drop (9 - (UInt8.ofNat (c % 256) :: d).length) = (UInt8.ofNat (c % 256) :: d).map bv := by
      rw [show 9 - (UInt8.ofNat (c % 256) :: d).length = 8 - d.length by simp only [List.length_cons]; omega, drop_set1 _ _ _ (by omega), show 8 - d.length + 1 = 9 - d.length by omega, hxd]; rfl
    refine lp_next hI (c / 256) (by omega) ⟨((c / 256 : Nat) : Int), UInt8.ofNat (c % 256) :: d, _, by rw [Int.toNat_natCast], by rw [Int.toNat_natCast]; omega, ?_, ?_, ?_, ?_, o', by rw [List.length_set]; exact hx, hdrop, st.past' s' fun i hi => by rw [hi]; exact Nat.le_refl _⟩
    · rw [Int.toNat_natCast, ← hD, hdp]; simp
    · simp (disch := first | omega | (simp only [lnv]; omega)) only [wlk, ↓get_put', ↓reduceIte, seval]; rfl
    · simp (disch := first | omega | (simp only [lnv]; omega)) only [wlk, ↓get_put', ↓reduceIte, seval, f3]
    · simp (disch := first | omega | (simp only [lnv]; omega)) only [wlk, ↓get_put', ↓reduceIte, seval]
      congr 1; simp only [List.length_cons]; omega
  · have hz0 : z.toNat = 0 := by omega
    rw [hz0, digs_zero, List.nil_append] at hD
    refine ST.own (y := bv (UInt8.ofNat d.length)) o (by rw [← bv_ofNat, Nat.mod_eq_of_lt (by omega)]; rfl) rfl (by omega) (by omega) fun g' o' s' => ?_
    have hlen : (xs.set (8 - d.length) (bv (UInt8.ofNat d.length))).length = 9 := by rw [List.length_set]; exact hx
    have hdrop : (xs.set (8 - d.length) (bv (UInt8.ofNat d.length))).drop (8 - d.length) = (UInt8.ofNat d.length :: d).map bv := by
      rw [drop_set1 _ _ _ (by omega), show 8 - d.length + 1 = 9 - d.length by omega, hxd]; rfl
    have hL := o'.back (a := 8 - d.length) (fin := 9) (by omega) (by omega) (some (9 - (8 - d.length)))
    rw [hdrop, hlen] at hL
    repeat' (first
      | refine St.h ?_
      | simp (disch := first | omega | (simp only [lnv]; omega)) only [wlk, ↓get_put', ↓reduceIte, seval, f0, f3, f4, hL.bs (by simp)]
      | (with_reducible (first | apply cd_split | apply gd_split)) <;> (intro hc; (try simp only [hcn] at hc); (try simp only [hc]); (try simp only [hcl] at hc); try omega))
    subst hQ
    exact ⟨by unfold numB; rw [← hD], st.past' s' fun i hi => by rw [hi]; exact Nat.le_refl _⟩
end Go.Proofs.Ytiingkpdodbldaa

set_option maxRecDepth 100000
set_option maxHeartbeats 8000000
set_option linter.all false
namespace Go.Proofs.Ytiingkpdodbldaa
open Go Go.Ev
theorem text_ok {h : H} {l : List UInt8} (hl : l.length ≤ 1000000) (hf : B.val h.floor ≤ B.val h.next) : FnOk Try.prog 55 [sv l] h fun y h' => y = sv (textB l) ∧ Stay nowhere h h' := by
  refine fn_go c55 (by intro hb; cases hb) (by simp) (by simp) fun Q hQ => ?_
  simp only [slotsF, Nat.reduceAdd]
  have h9 := numB_len (n := l.length) (by omega)
  repeat' (first
    | refine St.h ?_
    | simp (disch := first | omega | (simp only [lnv]; omega)) only [wlk, ↓get_put', ↓reduceIte, seval]
    | (with_reducible (first | apply cd_split | apply gd_split)) <;> (intro hc; (try simp only [hcn] at hc); (try simp only [hc]); (try simp only [hcl] at hc); try omega))
  refine CL.stay (num_ok (by omega) hf) fun h1 s1 => ?_
  repeat' (first
    | refine St.h ?_
    | simp (disch := first | omega | (simp only [lnv]; omega)) only [wlk, ↓get_put', ↓reduceIte, seval]
    | (with_reducible (first | apply cd_split | apply gd_split)) <;> (intro hc; (try simp only [hcn] at hc); (try simp only [hc]); (try simp only [hcl] at hc); try omega))
  subst hQ
  exact ⟨rfl, s1⟩
theorem takeText_ok {h : H} {l : List UInt8} (hl : l.length ≤ 1000000) : FnOk Try.prog 82 [sv l] h fun y h' => y = triT (takeT l) ∧ h' = h := by
  refine fn_go c82 (by intro hb; cases hb) (by simp) (by simp) fun Q hQ => ?_
  simp only [slotsF, Nat.reduceAdd]
  repeat' (first
    | refine St.h ?_
    | simp (disch := first | omega | (simp only [lnv]; omega)) only [wlk, ↓get_put', ↓reduceIte, seval]
    | (with_reducible (first | apply cd_split | apply gd_split)) <;> (intro hc; (try simp only [hcn] at hc); (try simp only [hc]); (try simp only [hcl] at hc); try omega))
  refine CL.pure (takeNum_ok hl) ?_
  rcases takeN_range l with (hc | hc) | ⟨n, k, hc, h1, h2, h3, h4⟩
  · have e : takeT l = ([], 0, 10) := by unfold takeT; rw [hc]; rfl
    rw [hc]; unfold tri
    repeat' (first
      | refine St.h ?_
      | simp (disch := first | omega | (simp only [lnv]; omega)) only [wlk, ↓get_put', ↓reduceIte, seval]
      | (with_reducible (first | apply cd_split | apply gd_split)) <;> (intro hc; (try simp only [hcn] at hc); (try simp only [hc]); (try simp only [hcl] at hc); try omega))
    subst hQ
    exact ⟨by rw [e]; rfl, rfl⟩
  · have e : takeT l = ([], 0, 12) := by unfold takeT; rw [hc]; rfl
    rw [hc]; unfold tri
    repeat' (first
      | refine St.h ?_
      | simp (disch := first | omega | (simp only [lnv]; omega)) only [wlk, ↓get_put', ↓reduceIte, seval]
      | (with_reducible (first | apply cd_split | apply gd_split)) <;> (intro hc; (try simp only [hcn] at hc); (try simp only [hc]); (try simp only [hcl] at hc); try omega))
    subst hQ
    exact ⟨by rw [e]; rfl, rfl⟩
  have e : takeT l = if ((l.drop k).length : Int) < (n : Int) then ([], 0, 12) else ((l.drop k).take n, (k : Int) + n, 0) := by
    unfold takeT; rw [hc]; simp only [if_true, Int.toNat_natCast]
  rw [hc]; unfold tri
  have hd : (l.drop k).length = l.length - k := List.length_drop
  repeat' (first
    | refine St.h ?_
    | simp (disch := first | omega | (simp only [lnv]; omega)) only [wlk, ↓get_put', ↓reduceIte, seval, Int.toNat_natCast]
    | (with_reducible (first | apply cd_split | apply gd_split)) <;> (intro hc; (try simp only [hcn] at hc); (try simp only [hc]); (try simp only [hcl] at hc); try omega))
  · rw [if_pos (by omega)] at e
    subst hQ
    exact ⟨by rw [e]; rfl, rfl⟩
  · rw [if_neg (by omega)] at e
    subst hQ
    exact ⟨by rw [e]; rfl, rfl⟩
theorem takeT_range (l : List UInt8) : (takeT l = ([], 0, 10) ∨ takeT l = ([], 0, 12)) ∨ ∃ (v : List UInt8) (k : Nat), takeT l = (v, (k : Int), 0) ∧ 1 ≤ k ∧ k ≤ l.length ∧ v.length ≤ k := by
  rcases takeN_range l with (hc | hc) | ⟨n, k, hc, h1, h2, h3, h4⟩
  · exact .inl (.inl (by unfold takeT; rw [hc]; rfl))
  · exact .inl (.inr (by unfold takeT; rw [hc]; rfl))
  have e : takeT l = if ((l.drop k).length : Int) < (n : Int) then ([], 0, 12) else ((l.drop k).take n, (k : Int) + n, 0) := by
    unfold takeT; rw [hc]; simp only [if_true, Int.toNat_natCast]
  have hd : (l.drop k).length = l.length - k := List.length_drop
  by_cases hn : ((l.drop k).length : Int) < (n : Int)
  · rw [if_pos hn] at e; exact .inl (.inr e)
  · rw [if_neg hn] at e
    exact .inr ⟨_, k + n, by rw [e]; rfl, by omega, by omega, by rw [List.length_take]; omega⟩
end Go.Proofs.Ytiingkpdodbldaa

set_option maxRecDepth 100000
set_option maxHeartbeats 8000000
set_option linter.all false
namespace Go.Proofs.Ytiingkpdodbldaa
open Go Go.Ev
theorem isWrite_ok {h : H} {k v : List UInt8} {d : Bool} (hf : B.val h.floor ≤ B.val h.next) : FnOk Try.prog 71 [.a [sv k, .b d, sv v]] h fun y h' => y = .b (isW k d v) ∧ Stay nowhere h h' := by
  refine fn_go c71 (by intro hb; cases hb) (by simp) (by simp) fun Q hQ => ?_
  simp only [slotsF, Nat.reduceAdd]
  repeat' (first
    | refine St.h ?_
    | simp (disch := first | omega | (simp only [lnv]; omega)) only [wlk, ↓get_put', ↓reduceIte, seval]
    | (with_reducible (first | apply cd_split | apply gd_split)) <;> (intro hc; (try simp only [hcn] at hc); (try simp only [hc]); (try simp only [hcl] at hc); try omega))
  refine AL.own (by simp) hf fun h1 s1 n1 o1 => ?_
  repeat' (first
    | refine St.h ?_
    | simp (disch := first | omega | (simp only [lnv]; omega)) only [wlk, ↓get_put', ↓reduceIte, seval, o1.row.l1]
    | (with_reducible (first | apply cd_split | apply gd_split)) <;> (intro hc; (try simp only [hcn] at hc); (try simp only [hc]); (try simp only [hcl] at hc); try omega))
  all_goals (subst hQ; refine ⟨?_, s1⟩; congr 1; symm; first | exact isW_lo (by assumption) | exact isW_hi (by assumption) | exact isW_t (by assumption) (by assumption) (by assumption) | exact isW_f (by assumption) (by assumption) (by assumption))
theorem is_ok {h : H} {e : Ent} (hf : B.val h.floor ≤ B.val h.next) : FnOk Try.prog 48 [.a [sv e.key, .i .i64 e.seq, .b e.del, sv e.val]] h fun y h' => y = .b (isE e) ∧ Stay nowhere h h' := by
  refine fn_go c48 (by intro hb; cases hb) (by simp) (by simp) fun Q hQ => ?_
  simp only [slotsF, Nat.reduceAdd]
  repeat' (first
    | refine St.h ?_
    | simp (disch := first | omega | (simp only [lnv]; omega)) only [wlk, ↓get_put', ↓reduceIte, seval]
    | (with_reducible (first | apply cd_split | apply gd_split)) <;> (intro hc; (try simp only [hcn] at hc); (try simp only [hc]); (try simp only [hcl] at hc); try omega))
  refine AL.own (by simp) hf fun h1 s1 n1 o1 => ?_
  repeat' (first
    | refine St.h ?_
    | simp (disch := first | omega | (simp only [lnv]; omega)) only [wlk, ↓get_put', ↓reduceIte, seval, o1.row.l1]
    | (with_reducible (first | apply cd_split | apply gd_split)) <;> (intro hc; (try simp only [hcn] at hc); (try simp only [hc]); (try simp only [hcl] at hc); try omega))
  · refine CL.stay (isWrite_ok (s1.fl hf)) fun h2 s2 => ?_
    repeat' (first
      | refine St.h ?_
      | simp (disch := first | omega | (simp only [lnv]; omega)) only [wlk, ↓get_put', ↓reduceIte, seval, o1.row.l1]
      | (with_reducible (first | apply cd_split | apply gd_split)) <;> (intro hc; (try simp only [hcn] at hc); (try simp only [hc]); (try simp only [hcl] at hc); try omega))
    subst hQ
    exact ⟨by rw [isE_in (by assumption) (by assumption)], s1.trans s2⟩
  · subst hQ
    exact ⟨by rw [isE_hi (by assumption)], s1⟩
  · subst hQ
    exact ⟨by rw [isE_lo (by assumption)], s1⟩
theorem less_ok {h : H} {a b : Ent} (hf : B.val h.floor ≤ B.val h.next) : FnOk Try.prog 72 [.a [sv a.key, .i .i64 a.seq, .b a.del, sv a.val], .a [sv b.key, .i .i64 b.seq, .b b.del, sv b.val]] h fun y h' => y = .b (lessE a b) ∧ Stay nowhere h h' := by
  refine fn_go c72 (by intro hb; cases hb) (by simp) (by simp) fun Q hQ => ?_
  simp only [slotsF, Nat.reduceAdd]
  repeat' (first
    | refine St.h ?_
    | simp (disch := first | omega | (simp only [lnv]; omega)) only [wlk, ↓get_put', ↓reduceIte, seval]
    | (with_reducible (first | apply cd_split | apply gd_split)) <;> (intro hc; (try simp only [hcn] at hc); (try simp only [hc]); (try simp only [hcl] at hc); try omega))
  refine AL.own (by simp) hf fun h1 s1 n1 o1 => ?_
  repeat' (first
    | refine St.h ?_
    | simp (disch := first | omega | (simp only [lnv]; omega)) only [wlk, ↓get_put', ↓reduceIte, seval]
    | (with_reducible (first | apply cd_split | apply gd_split)) <;> (intro hc; (try simp only [hcn] at hc); (try simp only [hc]); (try simp only [hcl] at hc); try omega))
  refine AL.own (by simp) (s1.fl hf) fun h2 s2 n2 o2 => ?_
  have o1' := o1.stay s2 fun h => h
  by_cases hk : a.key = b.key
  · repeat' (first
      | refine St.h ?_
      | simp (disch := first | omega | (simp only [lnv]; omega)) only [wlk, ↓get_put', ↓reduceIte, seval, o1'.row.l1, o2.row.l1, hk]
      | (with_reducible (first | apply cd_split | apply gd_split)) <;> (intro hc; (try simp only [hcn] at hc); (try simp only [hc]); (try simp only [hcl] at hc); try omega))
    subst hQ
    exact ⟨by rw [lessE_eq hk], s1.trans s2⟩
  · repeat' (first
      | refine St.h ?_
      | simp (disch := first | omega | (simp only [lnv]; omega)) only [wlk, ↓get_put', ↓reduceIte, seval, o1'.row.l1, o2.row.l1, hk]
      | (with_reducible (first | apply cd_split | apply gd_split)) <;> (intro hc; (try simp only [hcn] at hc); (try simp only [hc]); (try simp only [hcl] at hc); try omega))
    subst hQ
    exact ⟨by rw [lessE_ne hk], s1.trans s2⟩
theorem sorted_ok {h : H} {v : V} {L : List Ent} (hL : Es h v L) (hl : L.length ≤ 9223372036854775807) (hf : B.val h.floor ≤ B.val h.next) : FnOk Try.prog 49 [v] h fun y h' => y = .b (sortedE L) ∧ Stay nowhere h h' := by
  refine fn_go c49 (by intro hb; cases hb) (by simp) (by simp) fun Q hQ => ?_
  simp only [slotsF, Nat.reduceAdd]
  repeat' (first
    | refine St.h ?_
    | simp (disch := first | omega | (simp only [lnv]; omega)) only [wlk, ↓get_put', ↓reduceIte, seval]
    | (with_reducible (first | apply cd_split | apply gd_split)) <;> (intro hc; (try simp only [hcn] at hc); (try simp only [hc]); (try simp only [hcl] at hc); try omega))
  refine Ok.lp (fun m t g => ∃ j : Nat, m = L.length - j ∧ Stay nowhere h g ∧ srtU L j = true ∧ j ≤ L.length - 1 ∧ get 0 t = v ∧ get 3 t = .i .i64 ((j : Int) + 1)) L.length ?_ ?_
  · simp (disch := first | omega | (simp only [lnv]; omega)) only [wlk, ↓get_put', ↓reduceIte, seval]
    exact ⟨0, by omega, Stay.refl _ _, rfl, by omega, trivial, rfl⟩
  rintro I hI m t g ⟨j, rfl, st, hs, hj, f0, f3⟩
  have hL' := hL.grow st
  have ej : (j : Int) + 1 - 1 = (j : Int) := by omega
  have ek : ((j : Int) + 1).toNat = j + 1 := by omega
  repeat' (first
    | refine St.h ?_
    | simp (disch := first | omega | (simp only [lnv]; omega)) only [wlk, ↓get_put', ↓reduceIte, seval, f0, f3, hL.ln, hL.ix, hL'.la, ej, ek, Int.toNat_natCast]
    | (with_reducible (first | apply cd_split | apply gd_split)) <;> (intro hc; (try simp only [hcn] at hc); (try simp only [hc]); (try simp only [hcl] at hc); try omega))
  · refine CL.stay (less_ok (st.fl hf)) fun h1 s1 => ?_
    cases hb : lessE (L.getD j default) (L.getD (j + 1) default) with
    | false =>
      repeat' (first
        | refine St.h ?_
        | simp (disch := first | omega | (simp only [lnv]; omega)) only [wlk, ↓get_put', ↓reduceIte, seval, f0, f3]
        | (with_reducible (first | apply cd_split | apply gd_split)) <;> (intro hc; (try simp only [hcn] at hc); (try simp only [hc]); (try simp only [hcl] at hc); try omega))
      subst hQ
      exact ⟨by rw [sorted_no (by omega) hb], st.trans s1⟩
    | true =>
      repeat' (first
        | refine St.h ?_
        | simp (disch := first | omega | (simp only [lnv]; omega)) only [wlk, ↓get_put', ↓reduceIte, seval, f0, f3]
        | (with_reducible (first | apply cd_split | apply gd_split)) <;> (intro hc; (try simp only [hcn] at hc); (try simp only [hc]); (try simp only [hcl] at hc); try omega))
      refine lp_next hI (L.length - (j + 1)) (by omega) ⟨j + 1, rfl, st.trans s1, by rw [srtU_succ, hs, hb]; rfl, by omega, ?_, ?_⟩
      · simp (disch := first | omega | (simp only [lnv]; omega)) only [wlk, ↓get_put', ↓reduceIte, seval, f0]
      · simp (disch := first | omega | (simp only [lnv]; omega)) only [wlk, ↓get_put', ↓reduceIte, seval]; rfl
  · subst hQ
    obtain rfl : j = L.length - 1 := by omega
    exact ⟨by rw [show sortedE L = true from hs], st⟩
end Go.Proofs.Ytiingkpdodbldaa

set_option maxRecDepth 100000
set_option maxHeartbeats 8000000
set_option linter.all false
namespace Go.Proofs.Ytiingkpdodbldaa
open Go Go.Ev
theorem isE_len {e : Ent} (h : isE e = true) : e.key.length ≤ 13 ∧ e.val.length ≤ 24 ∧ 1 ≤ e.seq ∧ e.seq ≤ 1000000 := by
  obtain ⟨⟨h1, h2⟩, h3, h4, h5, _⟩ := isE_iff.1 h; exact ⟨h4, h5, h1, h2⟩
theorem textB_len (l : List UInt8) (h : l.length ≤ 9223372036854775807) : (textB l).length ≤ l.length + 9 := by
  unfold textB; rw [List.length_append]; have := numB_len h; omega
theorem bytes_ok {h : H} {e : Ent} (hf : B.val h.floor ≤ B.val h.next) : FnOk Try.prog 74 [.a [sv e.key, .i .i64 e.seq, .b e.del, sv e.val]] h fun y h' => y = sv (bytesE e) ∧ Stay nowhere h h' := by
  refine fn_go c74 (by intro hb; cases hb) (by simp) (by simp) fun Q hQ => ?_
  simp only [slotsF, Nat.reduceAdd]
  repeat' (first
    | refine St.h ?_
    | simp (disch := first | omega | (simp only [lnv]; omega)) only [wlk, ↓get_put', ↓reduceIte, seval]
    | (with_reducible (first | apply cd_split | apply gd_split)) <;> (intro hc; (try simp only [hcn] at hc); (try simp only [hc]); (try simp only [hcl] at hc); try omega))
  refine AL.own (by simp) hf fun h1 s1 n1 o1 => ?_
  have hf1 := s1.fl hf
  repeat' (first
    | refine St.h ?_
    | simp (disch := first | omega | (simp only [lnv]; omega)) only [wlk, ↓get_put', ↓reduceIte, seval, o1.row.l1, o1.row.ln]
    | (with_reducible (first | apply cd_split | apply gd_split)) <;> (intro hc; (try simp only [hcn] at hc); (try simp only [hc]); (try simp only [hcl] at hc); try omega))
  refine CL.stay (is_ok hf1) fun h2 s2 => ?_
  have hf2 := s2.fl hf1
  have o2 := o1.stay s2 fun h => h
  cases hi : isE e with
  | false =>
    repeat' (first
      | refine St.h ?_
      | simp (disch := first | omega | (simp only [lnv]; omega)) only [wlk, ↓get_put', ↓reduceIte, seval, o2.row.l1]
      | (with_reducible (first | apply cd_split | apply gd_split)) <;> (intro hc; (try simp only [hcn] at hc); (try simp only [hc]); (try simp only [hcl] at hc); try omega))
    subst hQ
    exact ⟨by unfold bytesE; rw [hi]; rfl, s1.trans s2⟩
  | true =>
  obtain ⟨k1, k2, k3, k4⟩ := isE_len hi
  have hb : bytesE e = textB e.key ++ tailB e := by unfold bytesE; rw [hi]; rfl
  have l1 := textB_len e.key (by omega)
  have l2 := textB_len e.val (by omega)
  have l3 := numB_len (n := e.seq.toNat) (by omega)
  repeat' (first
    | refine St.h ?_
    | simp (disch := first | omega | (simp only [lnv]; omega)) only [wlk, ↓get_put', ↓reduceIte, seval, o2.row.l1]
    | (with_reducible (first | apply cd_split | apply gd_split)) <;> (intro hc; (try simp only [hcn] at hc); (try simp only [hc]); (try simp only [hcl] at hc); try omega))
  refine CL.stayU (text_ok (by omega) (re_fl _)) fun h3 s3 => ?_
  have o3 := o2.stay s3 fun h => h
  have hf3 := s3.fl hf2
  repeat' (first
    | refine St.h ?_
    | simp (disch := first | omega | (simp only [lnv]; omega)) only [wlk, ↓get_put', ↓reduceIte, seval, o3.row.l1]
    | (with_reducible (first | apply cd_split | apply gd_split)) <;> (intro hc; (try simp only [hcn] at hc); (try simp only [hc]); (try simp only [hcl] at hc); try omega))
  refine CL.stay (num_ok (by omega) hf3) fun h4 s4 => ?_
  have o4 := o3.stay s4 fun h => h
  have hf4 := s4.fl hf3
  have s14 := ((s1.trans s2).trans s3).trans s4
  cases hd : e.del with
  | true =>
    repeat' (first
      | refine St.h ?_
      | simp (disch := first | omega | (simp only [lnv]; omega)) only [wlk, ↓get_put', ↓reduceIte, seval, o4.row.l1, hd]
      | (with_reducible (first | apply cd_split | apply gd_split)) <;> (intro hc; (try simp only [hcn] at hc); (try simp only [hc]); (try simp only [hcl] at hc); try omega))
    refine AL.str (bs := [1]) rfl (by simp) rfl rfl (by simp) hf4 fun h5 u5 s5 => ?_
    repeat' (first
      | refine St.h ?_
      | simp (disch := first | omega | (simp only [lnv]; omega)) only [wlk, ↓get_put', ↓reduceIte, seval]
      | (with_reducible (first | apply cd_split | apply gd_split)) <;> (intro hc; (try simp only [hcn] at hc); (try simp only [hc]); (try simp only [hcl] at hc); try omega))
    subst hQ
    exact ⟨by rw [hb]; unfold tailB; rw [hd]; simp, s14.trans s5⟩
  | false =>
    repeat' (first
      | refine St.h ?_
      | simp (disch := first | omega | (simp only [lnv]; omega)) only [wlk, ↓get_put', ↓reduceIte, seval, o4.row.l1, hd]
      | (with_reducible (first | apply cd_split | apply gd_split)) <;> (intro hc; (try simp only [hcn] at hc); (try simp only [hc]); (try simp only [hcl] at hc); try omega))
    refine AL.strU (bs := [0]) rfl (by simp) rfl rfl (by simp) hf4 fun h5 u5 s5 => ?_
    have o5 := o4.stay s5 fun h => h
    have hf5 := s5.fl hf4
    repeat' (first
      | refine St.h ?_
      | simp (disch := first | omega | (simp only [lnv]; omega)) only [wlk, ↓get_put', ↓reduceIte, seval, o5.row.l1]
      | (with_reducible (first | apply cd_split | apply gd_split)) <;> (intro hc; (try simp only [hcn] at hc); (try simp only [hc]); (try simp only [hcl] at hc); try omega))
    refine CL.stayU (text_ok (by omega) (re_fl _)) fun h6 s6 => ?_
    repeat' (first
      | refine St.h ?_
      | simp (disch := first | omega | (simp only [lnv]; omega)) only [wlk, ↓get_put', ↓reduceIte, seval]
      | (with_reducible (first | apply cd_split | apply gd_split)) <;> (intro hc; (try simp only [hcn] at hc); (try simp only [hc]); (try simp only [hcl] at hc); try omega))
    subst hQ
    exact ⟨by rw [hb]; unfold tailB; rw [hd]; simp, (s14.trans s5).trans s6⟩
end Go.Proofs.Ytiingkpdodbldaa

set_option maxRecDepth 100000
set_option maxHeartbeats 8000000
set_option linter.all false
namespace Go.Proofs.Ytiingkpdodbldaa
open Go Go.Ev
theorem own_lt' {h : H} {id : B} {xs : List V} (o : Ev.Own h id xs) : B.val id < B.val h.next := by obtain ⟨_, _, _, _, _, _, h6, _⟩ := o; exact h6
end Go.Proofs.Ytiingkpdodbldaa

set_option maxRecDepth 100000
set_option maxHeartbeats 8000000
set_option linter.all false
namespace Go.Proofs.Ytiingkpdodbldaa
open Go Go.Ev
theorem few_len {L : List Ent} (h : fewE L = true) : L.length ≤ 60 ∧ ∀ e ∈ L, e.key.length ≤ 20 ∧ e.val.length ≤ 40 := by
  unfold fewE at h
  rw [Bool.and_eq_true] at h
  refine ⟨of_decide_eq_true h.2, fun e he => ?_⟩
  have := (List.all_eq_true.1 h.1) e he
  unfold okE at this
  rw [Bool.and_eq_true] at this
  exact ⟨of_decide_eq_true this.1, of_decide_eq_true this.2⟩
end Go.Proofs.Ytiingkpdodbldaa

set_option linter.all false
namespace Go.Ev
open Go
def hashStep (p : Nat × Nat) (c : UInt8) : Nat × Nat := ((p.1 * 33 + c.toNat) % 4294967296, (p.2 * 31 % 4294967296) ^^^ c.toNat)
def hashU (l : List UInt8) : Nat × Nat := l.foldl hashStep (5381, 52711)
def hashB (l : List UInt8) : Nat × Nat := ((hashU l).1, (hashU l).2 ||| 1)
theorem hashU_lt (l : List UInt8) : (hashU l).1 < 4294967296 ∧ (hashU l).2 < 4294967296 := by
  unfold hashU
  have key : ∀ (l : List UInt8) (p : Nat × Nat), p.1 < 4294967296 ∧ p.2 < 4294967296 → (l.foldl hashStep p).1 < 4294967296 ∧ (l.foldl hashStep p).2 < 4294967296 := by
    intro l
    induction l with
    | nil => intro p h; exact h
    | cons c l ih =>
      intro p h
      refine ih _ ⟨Nat.mod_lt _ (by omega), ?_⟩
      have hc := c.toNat_lt
      have := Nat.xor_lt_two_pow (n := 32) (show p.2 * 31 % 4294967296 < 2 ^ 32 from Nat.mod_lt _ (by omega)) (show c.toNat < 2 ^ 32 by omega)
      exact this
  exact key l _ ⟨by decide, by decide⟩
theorem hashB_lt (l : List UInt8) : (hashB l).1 < 4294967296 ∧ (hashB l).2 < 4294967296 := by
  have ⟨h1, h2⟩ := hashU_lt l
  refine ⟨h1, ?_⟩
  have := Nat.or_lt_two_pow (n := 32) h2 (show 1 < 2 ^ 32 by omega)
  exact this
theorem hashU_take {l : List UInt8} {i : Nat} (hi : i < l.length) : hashU (l.take (i + 1)) = hashStep (hashU (l.take i)) (l.getD i 0) := by
  unfold hashU
  rw [List.take_succ_eq_append_getElem hi, List.foldl_append]
  simp [List.getD, hi]
/-- the q-th bit's place in n bytes -/
def spot (key : List UInt8) (n q : Nat) : Nat := ((hashB key).1 + q * (hashB key).2) % (8 * n)
/-- one bit is put -/
def putBit (s : List UInt8) (k : Nat) : List UInt8 := s.set (k / 8) (UInt8.ofNat ((s.getD (k / 8) 0).toNat ||| 2 ^ (k % 8)))
theorem putBit_len (s : List UInt8) (k : Nat) : (putBit s k).length = s.length := List.length_set
theorem byte_or {x i : Nat} (hx : x < 256) (hi : i < 8) : x ||| 2 ^ i < 256 := by
  have h1 : 2 ^ i < 2 ^ 8 := Nat.pow_lt_pow_right (by omega) hi
  exact Nat.or_lt_two_pow (n := 8) hx h1
/-- a key is put -/
def putKey (s key : List UInt8) (q : Nat) : List UInt8 := (List.range q).foldl (fun s q => putBit s (spot key s.length q)) s
theorem putKey_len (s key : List UInt8) (q : Nat) : (putKey s key q).length = s.length := by
  unfold putKey
  induction q with
  | zero => rfl
  | succ q ih => rw [List.range_succ, List.foldl_append]; simp only [List.foldl_cons, List.foldl_nil]; rw [putBit_len, ih]
theorem putKey_succ (s key : List UInt8) (q : Nat) : putKey s key (q + 1) = putBit (putKey s key q) (spot key s.length q) := by
  have := putKey_len s key q
  unfold putKey at *
  rw [List.range_succ, List.foldl_append]; simp only [List.foldl_cons, List.foldl_nil]; rw [this]
def putKeys (s : List UInt8) (l : List (List UInt8)) : List UInt8 := l.foldl (fun s k => putKey s k 4) s
theorem putKeys_len (l : List (List UInt8)) : ∀ s, (putKeys s l).length = s.length := by
  unfold putKeys
  induction l with
  | nil => intro s; rfl
  | cons k l ih => intro s; rw [List.foldl_cons, ih, putKey_len]
theorem putKeys_snoc (s : List UInt8) (l : List (List UInt8)) (k : List UInt8) : putKeys s (l ++ [k]) = putKey (putKeys s l) k 4 := by unfold putKeys; rw [List.foldl_append]; rfl
/-- the sieve of keys -/
def sieveB (l : List (List UInt8)) : List UInt8 := putKeys (List.replicate (max 8 l.length) 0) l
theorem sieveB_len (l : List (List UInt8)) : (sieveB l).length = max 8 l.length := by unfold sieveB; rw [putKeys_len, List.length_replicate]
end Go.Ev

set_option linter.all false
namespace Go.Proofs.Ytiingkpdodbldaa
open Go Go.Ev
/-- entries in blocks: the block at hand, what is left -/
def blkGo : List Ent → List Ent → List (List Ent)
  | c, [] => [c]
  | c, e :: r => if 200 < (blkE (c ++ [e])).1.length then c :: blkGo [e] r else blkGo (c ++ [e]) r
def blksE : List Ent → List (List Ent)
  | [] => []
  | e :: r => blkGo [e] r
theorem blkGo_big {c r : List Ent} {e : Ent} (h : 200 < (blkE (c ++ [e])).1.length) : blkGo c (e :: r) = c :: blkGo [e] r := if_pos h
theorem blkGo_fit {c r : List Ent} {e : Ent} (h : (blkE (c ++ [e])).1.length ≤ 200) : blkGo c (e :: r) = blkGo (c ++ [e]) r := if_neg (by omega)
theorem blkGo_flat : ∀ (r c : List Ent), (blkGo c r).flatten = c ++ r
  | [], c => by simp [blkGo]
  | e :: r, c => by
    unfold blkGo
    split
    · rw [List.flatten_cons, blkGo_flat r [e]]; simp
    · rw [blkGo_flat r]; simp
theorem blksE_flat : ∀ L : List Ent, (blksE L).flatten = L
  | [] => rfl
  | e :: r => by show (blkGo [e] r).flatten = _; rw [blkGo_flat]; rfl
theorem blkGo_ne : ∀ (r c : List Ent), c ≠ [] → ∀ b ∈ blkGo c r, b ≠ []
  | [], c, hc, b, hb => by simp [blkGo] at hb; rw [hb]; exact hc
  | e :: r, c, hc, b, hb => by
    unfold blkGo at hb
    split at hb
    · rcases List.mem_cons.1 hb with h | h
      · rw [h]; exact hc
      · exact blkGo_ne r [e] (by simp) b h
    · exact blkGo_ne r (c ++ [e]) (by simp) b hb
theorem blksE_ne : ∀ {L : List Ent}, ∀ b ∈ blksE L, b ≠ []
  | [], b, hb => by cases hb
  | e :: r, b, hb => blkGo_ne r [e] (by simp) b hb
theorem blkGo_pos : ∀ (r c : List Ent), 1 ≤ (blkGo c r).length
  | [], c => by simp [blkGo]
  | e :: r, c => by
    unfold blkGo
    split
    · simp
    · exact blkGo_pos r _
theorem blksE_pos {L : List Ent} (h : L ≠ []) : 1 ≤ (blksE L).length := by
  cases L with
  | nil => exact absurd rfl h
  | cons e r => exact blkGo_pos r [e]
theorem flat_len : ∀ {bs : List (List Ent)}, (∀ b ∈ bs, b ≠ []) → bs.length ≤ bs.flatten.length
  | [], _ => by simp
  | b :: bs, h => by
    have ih := flat_len (bs := bs) fun b hb => h b (List.mem_cons_of_mem _ hb)
    have : b ≠ [] := h b (by simp)
    have : 1 ≤ b.length := by cases b with | nil => exact absurd rfl this | cons => simp
    rw [List.flatten_cons, List.length_append, List.length_cons]; omega
theorem blksE_len (L : List Ent) : (blksE L).length ≤ L.length := by
  have := flat_len (blksE_ne (L := L))
  rwa [blksE_flat] at this
theorem sorted_iff {L : List Ent} : sortedE L = true ↔ ∀ i, i + 1 < L.length → lessE (L.getD i default) (L.getD (i + 1) default) = true := by
  constructor
  · exact fun h i hi => srtU_at h (by omega)
  · intro h
    unfold sortedE srtU
    rw [List.all_eq_true]
    exact fun i hi => h i (by rw [List.mem_range] at hi; omega)
theorem sorted_app {A C : List Ent} (h : sortedE (A ++ C) = true) : sortedE A = true ∧ sortedE C = true := by
  rw [sorted_iff] at h
  refine ⟨sorted_iff.2 fun i hi => ?_, sorted_iff.2 fun i hi => ?_⟩
  · have := h i (by rw [List.length_append]; omega)
    simpa [List.getD, List.getElem?_append, hi, show i < A.length by omega] using this
  · have := h (A.length + i) (by rw [List.length_append]; omega)
    simpa [List.getD, List.getElem?_append, show ¬ A.length + i + 1 < A.length by omega, show ¬ A.length + i < A.length by omega, show A.length + i + 1 - A.length = i + 1 by omega] using this
/-- a block's bytes -/
def blkB (b : List Ent) : List UInt8 := (blkE b).1
def bodyT (bs : List (List Ent)) : List UInt8 := (bs.map blkB).flatten
def firstK (b : List Ent) : List UInt8 := (b.getD 0 default).key
def lastK (b : List Ent) : List UInt8 := (b.getD (b.length - 1) default).key
def oneIx (b : List Ent) : List UInt8 := numB (blkB b).length ++ textB (firstK b) ++ textB (lastK b)
/-- the keys of the first n entries, each once -/
def keysU (L : List Ent) : Nat → List (List UInt8)
  | 0 => []
  | n + 1 => keysU L n ++ if n = 0 ∨ (L.getD (n - 1) default).key ≠ (L.getD n default).key then [(L.getD n default).key] else []
def keysE (L : List Ent) : List (List UInt8) := keysU L L.length
theorem keysU_len (L : List Ent) : ∀ n, (keysU L n).length ≤ n
  | 0 => by simp [keysU]
  | n + 1 => by
    have := keysU_len L n
    unfold keysU
    rw [List.length_append]
    split <;> simp <;> omega
theorem keysU_mem {L : List Ent} : ∀ {n : Nat} {k : List UInt8}, k ∈ keysU L n ↔ ∃ i, i < n ∧ (L.getD i default).key = k
  | 0, k => by simp [keysU]
  | n + 1, k => by
    unfold keysU
    rw [List.mem_append, keysU_mem (n := n)]
    constructor
    · rintro (⟨i, hi, e⟩ | h)
      · exact ⟨i, by omega, e⟩
      · split at h
        · exact ⟨n, by omega, (List.mem_singleton.1 h).symm⟩
        · cases h
    · rintro ⟨i, hi, e⟩
      by_cases hin : i = n
      · subst hin
        split
        · exact .inr (by rw [e]; simp)
        · rename_i hx
          have hx : ¬ i = 0 ∧ (L.getD (i - 1) default).key = (L.getD i default).key := by
            constructor
            · exact fun h => hx (.inl h)
            · exact Classical.byContradiction fun h => hx (.inr h)
          exact .inl ⟨i - 1, by omega, by rw [hx.2, e]⟩
      · exact .inl ⟨i, by omega, e⟩
theorem keysE_mem {L : List Ent} {k : List UInt8} : k ∈ keysE L ↔ ∃ e ∈ L, e.key = k := by
  unfold keysE
  rw [keysU_mem]
  constructor
  · rintro ⟨i, hi, e⟩
    exact ⟨L.getD i default, by rw [List.getD_eq_getElem?_getD, List.getElem?_eq_getElem hi]; simp, e⟩
  · rintro ⟨e, he, hk⟩
    obtain ⟨i, hi, rfl⟩ := List.getElem_of_mem he
    exact ⟨i, hi, by rw [List.getD_eq_getElem?_getD, List.getElem?_eq_getElem hi]; exact hk⟩
/-- the index, the table -/
def idxB (L : List Ent) : List UInt8 := numB L.length ++ numB (blksE L).length ++ ((blksE L).map oneIx).flatten
def tabB (L : List Ent) : List UInt8 := bodyT (blksE L) ++ sealB (idxB L) ++ sealB (sieveB (keysE L)) ++ fourB (bodyT (blksE L)).length
def tabE (L : List Ent) : List UInt8 × Int := if (blkE L).2 ≠ 0 then ([], (blkE L).2) else (tabB L, 0)
theorem tabE_bad {L : List Ent} (h : (blkE L).2 ≠ 0) : tabE L = ([], (blkE L).2) := if_pos h
theorem tabE_ok {L : List Ent} (h : (blkE L).2 = 0) : tabE L = (tabB L, 0) := if_neg (by simp [h])
theorem blkE_zero {L : List Ent} : (blkE L).2 = 0 ↔ L.all isE = true ∧ L ≠ [] ∧ sortedE L = true := by
  constructor
  · intro h
    cases ha : L.all isE with
    | false => rw [blkE_bad ha] at h; cases h
    | true =>
      by_cases hn : L = []
      · rw [hn, blkE_nil] at h; cases h
      · cases hs : sortedE L with
        | false => rw [blkE_un ha hn hs] at h; cases h
        | true => exact ⟨rfl, hn, rfl⟩
  · rintro ⟨a, b, c⟩; rw [blkE_ok a b c]
/-- a block is one -/
def okB (b : List Ent) : Prop := b.all isE = true ∧ b ≠ [] ∧ sortedE b = true
theorem okB_part {A C : List Ent} (h : okB (A ++ C)) (hA : A ≠ []) : okB A := by
  obtain ⟨h1, h2, h3⟩ := h
  rw [List.all_append, Bool.and_eq_true] at h1
  exact ⟨h1.1, hA, (sorted_app h3).1⟩
theorem okB_rest {A C : List Ent} (h : okB (A ++ C)) (hC : C ≠ []) : okB C := by
  obtain ⟨h1, h2, h3⟩ := h
  rw [List.all_append, Bool.and_eq_true] at h1
  exact ⟨h1.2, hC, (sorted_app h3).2⟩
theorem flat_ok : ∀ {bs : List (List Ent)}, okB bs.flatten → (∀ b ∈ bs, b ≠ []) → ∀ b ∈ bs, okB b
  | [], _, _, b, hb => by cases hb
  | c :: bs, h, hn, b, hb => by
    rw [List.flatten_cons] at h
    have hc : c ≠ [] := hn c (by simp)
    rcases List.mem_cons.1 hb with e | e
    · rw [e]; exact okB_part h hc
    · have hne : bs.flatten ≠ [] := by
        intro h0
        have : b ≠ [] := hn b hb
        rw [List.flatten_eq_nil_iff] at h0
        exact this (h0 b e)
      exact flat_ok (okB_rest h hne) (fun b hb => hn b (List.mem_cons_of_mem _ hb)) b e
theorem blks_ok {L : List Ent} (h : okB L) : ∀ b ∈ blksE L, okB b := flat_ok (by rw [blksE_flat]; exact h) blksE_ne
theorem blkB_ok {b : List Ent} (h : okB b) : blkB b = sealB (bodyB [] b) := by unfold blkB; rw [blkE_ok h.1 h.2.1 h.2.2]
theorem blkE_len {L : List Ent} (hl : L.length ≤ 100000) : (blkE L).1.length ≤ 80 * L.length + 13 := by
  unfold blkE
  split
  · simp
  · split
    · simp
    · rename_i h1 h2
      have h1 : L.all isE = true := by
        cases ha : L.all isE with
        | true => rfl
        | false => exact absurd (.inl ha) h1
      have := bodyB_len (p := []) h1
      have h9 := numB_len (n := (bodyB [] L).length) (by omega)
      show (sealB (bodyB [] L)).length ≤ _
      rw [sealB_len]; omega
theorem getD_mem {L : List (List Ent)} {i : Nat} (hi : i < L.length) : L.getD i [] ∈ L := by
  rw [List.getD_eq_getElem?_getD, List.getElem?_eq_getElem hi]; simp
theorem flat_le : ∀ {bs : List (List Ent)} {b : List Ent}, b ∈ bs → b.length ≤ bs.flatten.length
  | c :: bs, b, hb => by
    rw [List.flatten_cons, List.length_append]
    rcases List.mem_cons.1 hb with e | e
    · rw [e]; omega
    · have := flat_le e; omega
theorem bodyT_len : ∀ {bs : List (List Ent)}, (∀ b ∈ bs, b ≠ []) → bs.flatten.length ≤ 100000 → (bodyT bs).length ≤ 93 * bs.flatten.length
  | [], _, _ => by simp [bodyT]
  | b :: bs, h, hl => by
    rw [List.flatten_cons, List.length_append] at hl
    have ih := bodyT_len (bs := bs) (fun b hb => h b (List.mem_cons_of_mem _ hb)) (by omega)
    have h1 : b ≠ [] := h b (by simp)
    have h2 : 1 ≤ b.length := by cases b with | nil => exact absurd rfl h1 | cons => simp
    have h3 := blkE_len (L := b) (by omega)
    have e : bodyT (b :: bs) = blkB b ++ bodyT bs := rfl
    have e2 : (blkB b).length = (blkE b).1.length := rfl
    rw [e, List.length_append, List.flatten_cons, List.length_append]
    omega
theorem bodyT_succ {bs : List (List Ent)} {i : Nat} (hi : i < bs.length) : bodyT (bs.take (i + 1)) = bodyT (bs.take i) ++ blkB (bs.getD i []) := by
  unfold bodyT; rw [List.take_succ, List.map_append, List.flatten_append]; congr 1; simp [List.getD, hi]
/-- the index up to there -/
def idxU (L : List Ent) (n : Nat) : List UInt8 := numB L.length ++ numB (blksE L).length ++ (((blksE L).take n).map oneIx).flatten
theorem idxU_succ {L : List Ent} {i : Nat} (hi : i < (blksE L).length) : idxU L (i + 1) = idxU L i ++ oneIx ((blksE L).getD i []) := by
  unfold idxU; rw [List.take_succ, List.map_append, List.flatten_append, ← List.append_assoc]; congr 1; simp [List.getD, hi]
theorem idxU_all (L : List Ent) : idxU L (blksE L).length = idxB L := by unfold idxU idxB; rw [List.take_length]
theorem okB_key {b : List Ent} (h : okB b) {i : Nat} (hi : i < b.length) : 1 ≤ (b.getD i default).key.length ∧ (b.getD i default).key.length ≤ 13 := by
  have h1 : isE (b.getD i default) = true := by
    have := List.all_eq_true.1 h.1 (b.getD i default) (by rw [List.getD_eq_getElem?_getD, List.getElem?_eq_getElem hi]; simp)
    exact this
  obtain ⟨_, k1, k2, _⟩ := isE_iff.1 h1
  exact ⟨k1, k2⟩
theorem okB_pos {b : List Ent} (h : okB b) : 1 ≤ b.length := by
  cases b with
  | nil => exact absurd rfl h.2.1
  | cons => simp
theorem textB_le {l : List UInt8} (h : l.length ≤ 13) : (textB l).length ≤ 22 := by
  have := numB_len (n := l.length) (by omega)
  unfold textB; rw [List.length_append]; omega
theorem oneIx_len {b : List Ent} (h : okB b) (hl : b.length ≤ 1000) : (oneIx b).length ≤ 53 := by
  have h1 := okB_pos h
  have h2 := textB_le (okB_key h (i := 0) (by omega)).2
  have h3 := textB_le (okB_key h (i := b.length - 1) (by omega)).2
  have h4 := blkE_len (L := b) (by omega)
  have h5 := numB_len (n := (blkB b).length) (by show (blkE b).1.length ≤ _; omega)
  unfold oneIx firstK lastK; rw [List.length_append, List.length_append]; omega
theorem blks_each {L : List Ent} {i : Nat} (hi : i < (blksE L).length) : ((blksE L).getD i []).length ≤ L.length := by
  have := flat_le (getD_mem hi)
  rwa [blksE_flat] at this
theorem idxU_len {L : List Ent} (h : okB L) (hl : L.length ≤ 1000) : ∀ n, n ≤ (blksE L).length → (idxU L n).length ≤ 18 + 53 * n
  | 0, _ => by
    have h1 := numB_len (n := L.length) (by omega)
    have h2 := blksE_len L
    have h3 := numB_len (n := (blksE L).length) (by omega)
    unfold idxU; simp; omega
  | n + 1, hn => by
    have ih := idxU_len h hl n (by omega)
    have h1 := oneIx_len (blks_ok h _ (getD_mem (i := n) (by omega))) (by have := blks_each (L := L) (i := n) (by omega); omega)
    rw [idxU_succ (by omega), List.length_append]; omega
theorem es_l00 {P : Program} {h : H} {N : Nx} {v : V} {L : List Ent} (a : Es h v L) (hi : 0 < L.length) : L1 P (lid v) (lg v) (loff v) (lfin v) h N = N.go P (sv (L.getD 0 default).key) h := by
  have := a.l0 (P := P) (N := N) hi
  rwa [Nat.zero_mul, Nat.add_zero] at this
/-- a block, as it lies -/
structure Bk where
  v : V
  l : List Ent
instance : Inhabited Bk := ⟨⟨.l0, []⟩⟩
def bkC (b : Bk) : List V := [b.v]
theorem bkC_len (b : Bk) : (bkC b).length = 1 := rfl
/-- blocks, as they lie -/
structure Bls (h : H) (v : V) (bs : List (List Ent)) (ks : List Bk) : Prop where
  ss : Ss 1 bkC h v ks
  eq : ks.map (·.l) = bs
  es : ∀ k ∈ ks, Es h k.v k.l
section
variable {P : Program} {h h' g' : H} {N : Nx} {v : V} {bs : List (List Ent)} {ks : List Bk} {i : Nat}
theorem Bls.len (a : Bls h v bs ks) : ks.length = bs.length := by rw [← a.eq, List.length_map]
theorem Bls.ld (a : Bls h v bs ks) (hi : i < bs.length) : L1 P (lid v) (lg v) (loff v + i) (lfin v) h N = N.go P (ks.getD i default).v h := by
  have := a.ss.ld (P := P) (N := N) (i := i) (d := 0) bkC_len (by rw [a.len]; exact hi) (by omega)
  rwa [Nat.mul_one] at this
theorem Bls.grow (a : Bls h v bs ks) (s : Stay nowhere h h') : Bls h' v bs ks := ⟨a.ss.grow s, a.eq, fun k hk => (a.es k hk).grow s⟩
theorem Bls.at (a : Bls h v bs ks) (hi : i < bs.length) : Es h (ks.getD i default).v (bs.getD i []) := by
  have hk : i < ks.length := by rw [a.len]; exact hi
  have h1 := a.es (ks.getD i default) (by rw [List.getD_eq_getElem?_getD, List.getElem?_eq_getElem hk]; simp)
  have h2 : bs.getD i [] = (ks.getD i default).l := by rw [← a.eq]; simp [List.getD, List.getElem?_eq_getElem hk]
  rw [h2]; exact h1
end
end Go.Proofs.Ytiingkpdodbldaa

set_option linter.all false
namespace Go.Proofs.Ytiingkpdodbldaa
open Go Go.Ev
theorem key_le {L : List Ent} (hs : sortedE L = true) {i j : Nat} (hij : i ≤ j) (hj : j < L.length) : Op.bytesLess (L.getD j default).key (L.getD i default).key = false := by
  by_cases e : i = j
  · rw [e]; exact bl_irr _
  · have := sorted_lt hs (show i < j by omega) hj
    unfold lessE at this
    split at this
    · rename_i h; rw [h]; exact bl_irr _
    · exact bl_asym this
theorem first_last {b : List Ent} (h : okB b) : Op.bytesLess (lastK b) (firstK b) = false := key_le h.2.2 (Nat.zero_le _) (by have := okB_pos h; omega)
theorem getD_app' {A C : List Ent} {p : Nat} : (A ++ C).getD p default = if p < A.length then A.getD p default else C.getD (p - A.length) default := by
  split
  · rename_i h; simp [List.getD, List.getElem?_append, h]
  · rename_i h; simp [List.getD, List.getElem?_append, h]
theorem two_order {A C : List Ent} (h : sortedE (A ++ C) = true) (hA : A ≠ []) (hC : C ≠ []) : Op.bytesLess (firstK C) (lastK A) = false := by
  have h1 : 1 ≤ A.length := by cases A with | nil => exact absurd rfl hA | cons => simp
  have h2 : 1 ≤ C.length := by cases C with | nil => exact absurd rfl hC | cons => simp
  have := key_le h (i := A.length - 1) (j := A.length) (by omega) (by rw [List.length_append]; omega)
  rw [getD_app', getD_app', if_neg (by omega), if_pos (by omega), Nat.sub_self] at this
  exact this
theorem blocks_order : ∀ {bs : List (List Ent)}, okB bs.flatten → (∀ b ∈ bs, b ≠ []) → ∀ {i : Nat}, i + 1 < bs.length → Op.bytesLess (firstK (bs.getD (i + 1) [])) (lastK (bs.getD i [])) = false
  | [], _, _, i, hi => by simp at hi
  | [b], _, _, i, hi => by simp at hi
  | b :: c :: bs, h, hn, 0, hi => by
    have hb : b ≠ [] := hn b (by simp)
    have hc : c ≠ [] := hn c (by simp)
    rw [List.flatten_cons, List.flatten_cons, ← List.append_assoc] at h
    have h1 := okB_part h (by simp [hb])
    exact two_order h1.2.2 hb hc
  | b :: c :: bs, h, hn, i + 1, hi => by
    have hc : c ≠ [] := hn c (by simp)
    rw [List.flatten_cons] at h
    have h1 := okB_rest h (by rw [List.flatten_cons]; simp [hc])
    exact blocks_order h1 (fun b hb => hn b (List.mem_cons_of_mem _ hb)) (i := i) (by simpa using hi)
theorem blks_order {L : List Ent} (h : okB L) {i : Nat} (hi : i + 1 < (blksE L).length) : Op.bytesLess (firstK ((blksE L).getD (i + 1) [])) (lastK ((blksE L).getD i [])) = false := blocks_order (by rw [blksE_flat]; exact h) blksE_ne hi
def offT (L : List Ent) (j : Nat) : Nat := (bodyT ((blksE L).take j)).length
theorem bodyT_cut {bs : List (List Ent)} (j : Nat) : ∃ more, bodyT bs = bodyT (bs.take j) ++ more := by
  refine ⟨bodyT (bs.drop j), ?_⟩
  unfold bodyT
  conv => lhs; rw [← List.take_append_drop j bs, List.map_append, List.flatten_append]
theorem offT_le {L : List Ent} (j : Nat) : offT L j ≤ (bodyT (blksE L)).length := by
  obtain ⟨more, e⟩ := bodyT_cut (bs := blksE L) j
  unfold offT; rw [e, List.length_append]; omega
theorem oneIx_parts (b : List Ent) (more : List UInt8) : oneIx b ++ more = numB (blkB b).length ++ (textB (firstK b) ++ (textB (lastK b) ++ more)) := by unfold oneIx; simp only [List.append_assoc]
theorem blkB_pos {b : List Ent} (h : okB b) : 1 ≤ (blkB b).length := by
  rw [blkB_ok h, sealB_len]; omega
end Go.Proofs.Ytiingkpdodbldaa

set_option linter.all false
namespace Go.Proofs.Ytiingkpdodbldaa
open Go Go.Ev
/-- a block's bytes, its first and its last key -/
structure Pc where
  b : List UInt8
  f : List UInt8
  l : List UInt8
def pcZ : Pc := ⟨[], [], []⟩
instance : Inhabited Pc := ⟨pcZ⟩
def pcC (p : Pc) : List V := [sv p.b, sv p.f, sv p.l]
theorem pcC_len (p : Pc) : (pcC p).length = 3 := rfl
def pcOf (b : List Ent) : Pc := ⟨blkB b, firstK b, lastK b⟩
def Ps (h : H) (v : V) (L : List Pc) : Prop := Ss 3 pcC h v L
section
variable {P : Program} {h h' g' : H} {N : Nx} {v : V} {L : List Pc} {i d : Nat}
theorem Ps.ln (a : Ps h v L) : H1 P gLen v g' N = N.go P (.i .i64 (L.length : Int)) g' := Ss.ln a
theorem Ps.ix (a : Ps h v L) (hi : i < L.length) : IX P 3 v i g' N = N.go P (.p (lid v) (lg v) (loff v + i * 3) (lfin v)) g' := Ss.ix a hi
theorem Ps.l0 (a : Ps h v L) (hi : i < L.length) : L1 P (lid v) (lg v) (loff v + i * 3) (lfin v) h N = N.go P (sv (L.getD i default).b) h := Ss.ld (d := 0) a pcC_len hi (by omega)
theorem Ps.l2 (a : Ps h v L) (hi : i < L.length) : L1 P (lid v) (lg v) (loff v + i * 3 + 2) (lfin v) h N = N.go P (sv (L.getD i default).l) h := Ss.ld (d := 2) a pcC_len hi (by omega)
theorem Ps.la (a : Ps h v L) (hi : i < L.length) : LN P (lid v) (lg v) (loff v + i * 3) (lfin v) 3 h N = N.go P (.a [sv (L.getD i default).b, sv (L.getD i default).f, sv (L.getD i default).l]) h := Ss.ldA a pcC_len (by omega) hi
theorem Ps.grow (a : Ps h v L) (s : Stay nowhere h h') : Ps h' v L := Ss.grow a s
end
def idxT (bs : List (List Ent)) : List UInt8 := (bs.map oneIx).flatten
/-- blocks in order, all keys of them above that one -/
def Chn : List UInt8 → List (List Ent) → Prop
  | _, [] => True
  | k, b :: bs => okB b ∧ b.length ≤ 100 ∧ Op.bytesLess (firstK b) k = false ∧ Chn (lastK b) bs
theorem chn_of : ∀ {bs : List (List Ent)} {k : List UInt8}, (∀ b ∈ bs, okB b ∧ b.length ≤ 100) → (∀ i, i + 1 < bs.length → Op.bytesLess (firstK (bs.getD (i + 1) [])) (lastK (bs.getD i [])) = false) → (0 < bs.length → Op.bytesLess (firstK (bs.getD 0 [])) k = false) → Chn k bs
  | [], _, _, _, _ => trivial
  | b :: bs, k, h1, h2, h3 => ⟨(h1 b (by simp)).1, (h1 b (by simp)).2, h3 (by simp), chn_of (fun c hc => h1 c (List.mem_cons_of_mem _ hc)) (fun i hi => h2 (i + 1) (by simpa using hi)) (fun h0 => h2 0 (by simpa using h0))⟩
theorem bl_nil_r (l : List UInt8) : Op.bytesLess l [] = false := by cases l <;> rfl
theorem chn_blks {L : List Ent} (h : okB L) (hl : L.length ≤ 100) : Chn [] (blksE L) := by
  refine chn_of (fun b hb => ⟨blks_ok h b hb, ?_⟩) (fun i hi => blks_order h hi) fun _ => bl_nil_r _
  have := flat_le hb
  rw [blksE_flat] at this; omega
theorem oneIx_ne (b : List Ent) : oneIx b ≠ [] := by
  unfold oneIx textB numB
  intro h
  have := congrArg List.length h
  simp at this
theorem idxT_cons (b : List Ent) (bs : List (List Ent)) : idxT (b :: bs) = oneIx b ++ idxT bs := rfl
theorem blkB_len {b : List Ent} (hl : b.length ≤ 100) : (blkB b).length ≤ 8013 := by
  have := blkE_len (L := b) (by omega)
  unfold blkB; omega
theorem one_num {b : List Ent} (hl : b.length ≤ 100) (more : List UInt8) : takeN (oneIx b ++ more) = (((blkB b).length : Int), ((numB (blkB b).length).length : Int), 0) := by
  have := blkB_len hl
  rw [oneIx_parts]; exact takeN_numB (by omega) _
theorem one_first {b : List Ent} (h : okB b) (more : List UInt8) : takeT ((oneIx b ++ more).drop (numB (blkB b).length).length) = (firstK b, ((textB (firstK b)).length : Int), 0) := by
  have hk := (okB_key h (i := 0) (okB_pos h)).2
  rw [oneIx_parts, List.drop_left]; exact takeT_textB (by unfold firstK; omega)
theorem one_last {b : List Ent} (h : okB b) (more : List UInt8) : takeT ((oneIx b ++ more).drop ((numB (blkB b).length).length + (textB (firstK b)).length)) = (lastK b, ((textB (lastK b)).length : Int), 0) := by
  have hp := okB_pos h
  have hk := (okB_key h (i := b.length - 1) (by omega)).2
  rw [oneIx_parts, ← List.drop_drop, List.drop_left, List.drop_left]; exact takeT_textB (by unfold lastK; omega)
theorem one_ilen (b : List Ent) : (oneIx b).length = (numB (blkB b).length).length + (textB (firstK b)).length + (textB (lastK b)).length := by unfold oneIx; simp only [List.length_append]
/-- the four bytes at the end, and what they part -/
def splT (s : List UInt8) : List UInt8 × List UInt8 × Int :=
  if s.length < 4 then ([], [], 12) else
  if s.length - 4 < pk (s.drop (s.length - 4)) then ([], [], 12) else (s.take (pk (s.drop (s.length - 4))), (s.take (s.length - 4)).drop (pk (s.drop (s.length - 4))), 0)
theorem pk_four {n : Nat} (hn : n < 4294967296) : pk (fourB n) = n := by
  unfold fourB; simp [pk]; omega
theorem splT_made {a b : List UInt8} {n : Nat} (hn : n = a.length) (h4 : n < 4294967296) : splT (a ++ b ++ fourB n) = (a, b, 0) := by
  have hf := fourB_len n
  have hl : (a ++ b ++ fourB n).length = a.length + b.length + 4 := by simp only [List.length_append, hf]
  have hd : (a ++ b ++ fourB n).drop (a.length + b.length + 4 - 4) = fourB n := by
    rw [show a.length + b.length + 4 - 4 = (a ++ b).length by simp, List.drop_left]
  have ht : (a ++ b ++ fourB n).take (a.length + b.length + 4 - 4) = a ++ b := by
    rw [show a.length + b.length + 4 - 4 = (a ++ b).length by simp, List.take_left]
  unfold splT
  rw [hl, hd, ht, pk_four h4, if_neg (by omega), if_neg (by omega), hn, List.drop_left, List.append_assoc, List.take_left]
end Go.Proofs.Ytiingkpdodbldaa

set_option maxRecDepth 1000000
set_option linter.all false
namespace Go.Proofs.Ytiingkpdodbldaa
open Go Go.Ev
noncomputable abbrev s73_0 : CC := (CC.cond (tm 23) CC.skip (CC.exit 0))
noncomputable abbrev s73_1 : CC := (CC.seq (CC.draws [(uB 12 (doMove (tm 6))), (uB 13 (doMove (tm 5))), (uB 14 (bin2 fLss (tm 12) (tm 13))), (uB 15 (doMove (tm 14))), (uG 15 true 16 (doMove (tm 0))), (uG 15 true 17 (doMove (tm 6))), (uG 15 true 18 (doSIndex (tm 16) (tm 17))), (uG 15 true 19 (doMove (tm 1))), (uG 15 true 20 (doMove (tm 6))), (uG 15 true 21 (doSIndex (tm 19) (tm 20))), (uG 15 true 22 (bin2 fEql (tm 18) (tm 21))), (uB 23 (doPick (tm 15) (tm 22) (O.c (V.b Bool.false))))]) s73_0)
noncomputable abbrev s73_2 : CC := (CC.region [(wB 24 (doMove (tm 6))), (wB 25 (bin2 fAdd (tm 24) (oN 1))), (wB 6 (doMove (tm 25)))])
noncomputable abbrev s73_3 : CC := (CC.block 1 s73_2)
noncomputable abbrev l73_0 : CC := (CC.seq s73_1 s73_3)
noncomputable abbrev s73_4 : CC := (CC.loop l73_0)
noncomputable abbrev s73_5 : CC := (CC.block 0 s73_4)
noncomputable abbrev s73_6 : CC := (CC.seq (CC.region [(wB 26 (doMove (tm 6))), (wB 4 (doMove (tm 26)))]) CC.ret)
noncomputable abbrev s73_7 : CC := (CC.seq s73_5 s73_6)
noncomputable abbrev s73_8 : CC := (CC.seq (CC.region [(wB 6 (doMove (oN 0)))]) s73_7)
noncomputable abbrev s73_9 : CC := (CC.seq (CC.region [(wB 7 (doMove (tm 0))), (wB 8 (doLenS (tm 7))), (wB 9 (doMove (tm 1))), (wB 10 (doLenS (tm 9))), (wB 11 (doMin (tm 8) (tm 10))), (wB 5 (doMove (tm 11)))]) s73_8)
noncomputable abbrev b73 : CC := (CC.seq (CC.region [(wB 4 (doMove (oN 0)))]) s73_9)
theorem c73 : compFn Try.prog 73 = ⟨27, b73, [(Rs.tmp (slOf 4))]⟩ := by kernel_rfl
noncomputable abbrev s50_0 : CC := (CC.cond (tm 11) CC.skip (CC.exit 0))
noncomputable abbrev s50_1 : CC := (CC.region [(wB 35 (doFieldAddr 0 (tm 6))), (wB 36 (doLoad (tm 35))), (wB 4 (doMove (tm 36)))])
noncomputable abbrev s50_2 : CC := (CC.seq (CC.draws [(uB 27 (doLoadA 4 (tm 6))), (uB 28 (doCall 74 [(tm 27)])), (uB 29 (doFieldAddr 0 (tm 6))), (uB 30 (doLoad (tm 29))), (wB 31 (doCall 55 [(tm 30)])), (uB 32 (doLenS (tm 31))), (uB 33 (doSSlice (tm 28) (some (tm 32)) none)), (wB 34 (doCall 24 [(tm 3), (tm 33)]))]) s50_1)
noncomputable abbrev s50_3 : CC := (CC.seq (CC.region [(wB 21 (doFieldAddr 0 (tm 6))), (wB 22 (doLoad (tm 21))), (wB 23 (doMove (tm 7))), (wB 24 (doSSlice (tm 22) (some (tm 23)) none)), (wB 25 (doCall 55 [(tm 24)])), (wB 26 (doCall 24 [(tm 3), (tm 25)]))]) s50_2)
noncomputable abbrev s50_4 : CC := (CC.seq (CC.region [(wB 18 (doMove (tm 7))), (wB 19 (doCall 53 [(tm 18)])), (wB 20 (doCall 24 [(tm 3), (tm 19)]))]) s50_3)
noncomputable abbrev s50_5 : CC := (CC.seq (CC.region [(wB 14 (doMove (tm 4))), (wB 15 (doFieldAddr 0 (tm 6))), (wB 16 (doLoad (tm 15))), (wB 17 (doCall 73 [(tm 14), (tm 16)])), (wB 7 (doMove (tm 17)))]) s50_4)
noncomputable abbrev s50_6 : CC := (CC.seq (CC.region [(wB 12 (doIndexAddr 4 (tm 8) (tm 10))), (wB 13 (doLoadA 4 (tm 12))), (wB 6 (doAlloc 34 [(V.s 0 0), (V.i IntKind.i64 (Int.ofNat 0)), (V.b Bool.false), (V.s 0 0)])), (CO.mk G.none D.none Bool.true (CR.mk (doStore 4 (tm 6) (tm 13))))]) s50_5)
noncomputable abbrev s50_7 : CC := (CC.block 1 s50_6)
noncomputable abbrev s50_8 : CC := (CC.region [(wB 37 (bin2 fAdd (tm 10) (oN 1))), (wB 10 (doMove (tm 37)))])
noncomputable abbrev s50_9 : CC := (CC.seq s50_7 s50_8)
noncomputable abbrev s50_10 : CC := (CC.seq s50_0 s50_9)
noncomputable abbrev l50_0 : CC := (CC.seq (CC.region [(wB 11 (bin2 fLss (tm 10) (tm 9)))]) s50_10)
noncomputable abbrev s50_11 : CC := (CC.loop l50_0)
noncomputable abbrev s50_12 : CC := (CC.block 0 s50_11)
noncomputable abbrev s50_13 : CC := (CC.seq (CC.region [(wB 8 (doMove (tm 0))), (wB 9 (doLen (tm 8))), (wB 10 (doMove (oN 0)))]) s50_12)
noncomputable abbrev s50_14 : CC := (CC.seq (CC.region [(wB 38 (doCall 31 [(tm 3)])), (wB 2 (doMove (tm 38)))]) CC.ret)
noncomputable abbrev s50_15 : CC := (CC.seq s50_13 s50_14)
noncomputable abbrev s50_16 : CC := (CC.seq (CC.region [(wB 4 (doMove (O.c (V.s 0 0))))]) s50_15)
noncomputable abbrev s50_17 : CC := (CC.seq (CC.region [(wB 3 (doAlloc 58 [V.p0, V.l0]))]) s50_16)
noncomputable abbrev b50 : CC := (CC.seq (CC.region [(wB 2 (doMove (O.c (V.s 0 0))))]) s50_17)
theorem c50 : compFn Try.prog 50 = ⟨39, b50, [(Rs.tmp (slOf 2))]⟩ := by kernel_rfl
noncomputable abbrev s22_0 : CC := (CC.seq (CC.region [(wB 2 (doMove (O.c (V.s 0 0)))), (wB 3 (doMove (oN 10)))]) CC.ret)
noncomputable abbrev s22_1 : CC := (CC.cond (tm 8) s22_0 CC.skip)
noncomputable abbrev s22_2 : CC := (CC.seq (CC.region [(wB 6 (doMove (tm 0))), (wB 7 (doLen (tm 6))), (wB 8 (bin2 fEql (tm 7) (oN 0)))]) s22_1)
noncomputable abbrev s22_3 : CC := (CC.cond (tm 12) CC.skip (CC.exit 0))
noncomputable abbrev s22_4 : CC := (CC.seq (CC.region [(wB 2 (doMove (O.c (V.s 0 0)))), (wB 3 (doMove (oN 10)))]) CC.ret)
noncomputable abbrev s22_5 : CC := (CC.cond (tm 17) s22_4 CC.skip)
noncomputable abbrev s22_6 : CC := (CC.seq (CC.region [(wB 15 (doLoadA 4 (tm 5))), (wB 16 (doCall 48 [(tm 15)])), (wB 17 (doNot (tm 16)))]) s22_5)
noncomputable abbrev s22_7 : CC := (CC.seq (CC.region [(wB 13 (doIndexAddr 4 (tm 9) (tm 11))), (wB 14 (doLoadA 4 (tm 13))), (wB 5 (doAlloc 34 [(V.s 0 0), (V.i IntKind.i64 (Int.ofNat 0)), (V.b Bool.false), (V.s 0 0)])), (CO.mk G.none D.none Bool.true (CR.mk (doStore 4 (tm 5) (tm 14))))]) s22_6)
noncomputable abbrev s22_8 : CC := (CC.block 1 s22_7)
noncomputable abbrev s22_9 : CC := (CC.region [(wB 18 (bin2 fAdd (tm 11) (oN 1))), (wB 11 (doMove (tm 18)))])
noncomputable abbrev s22_10 : CC := (CC.seq s22_8 s22_9)
noncomputable abbrev s22_11 : CC := (CC.seq s22_3 s22_10)
noncomputable abbrev l22_0 : CC := (CC.seq (CC.region [(wB 12 (bin2 fLss (tm 11) (tm 10)))]) s22_11)
noncomputable abbrev s22_12 : CC := (CC.loop l22_0)
noncomputable abbrev s22_13 : CC := (CC.block 0 s22_12)
noncomputable abbrev s22_14 : CC := (CC.seq (CC.region [(wB 9 (doMove (tm 0))), (wB 10 (doLen (tm 9))), (wB 11 (doMove (oN 0)))]) s22_13)
noncomputable abbrev s22_15 : CC := (CC.seq (CC.region [(wB 2 (doMove (O.c (V.s 0 0)))), (wB 3 (doMove (oN 16)))]) CC.ret)
noncomputable abbrev s22_16 : CC := (CC.cond (tm 21) s22_15 CC.skip)
noncomputable abbrev s22_17 : CC := (CC.seq (CC.region [(wB 19 (doMove (tm 0))), (wB 20 (doCall 49 [(tm 19)])), (wB 21 (doNot (tm 20)))]) s22_16)
noncomputable abbrev s22_18 : CC := (CC.seq (CC.region [(wB 22 (doMove (tm 0))), (wB 23 (doCall 50 [(tm 22)])), (wB 24 (doCall 26 [(tm 23)])), (wB 2 (doMove (tm 24))), (wB 3 (doMove (oN 0)))]) CC.ret)
noncomputable abbrev s22_19 : CC := (CC.seq s22_17 s22_18)
noncomputable abbrev s22_20 : CC := (CC.seq s22_14 s22_19)
noncomputable abbrev s22_21 : CC := (CC.seq s22_2 s22_20)
noncomputable abbrev b22 : CC := (CC.seq (CC.region [(wB 2 (doMove (O.c (V.s 0 0)))), (wB 3 (doMove (oN 0)))]) s22_21)
theorem c22 : compFn Try.prog 22 = ⟨25, b22, [(Rs.tmp (slOf 2)), (Rs.tmp (slOf 3))]⟩ := by kernel_rfl
end Go.Proofs.Ytiingkpdodbldaa

set_option maxRecDepth 1000000
set_option linter.all false
namespace Go.Proofs.Ytiingkpdodbldaa
open Go Go.Ev
noncomputable abbrev s24_0 : CC := (CC.seq (CC.region [(wB 17 (doMove (tm 1))), (wB 18 (doLenS (tm 17))), (wB 4 (doMove (tm 18))), (wB 5 (doMove (O.c V.x0)))]) CC.ret)
noncomputable abbrev s24_1 : CC := (CC.seq (CC.region [(wB 8 (doMove (tm 0))), (wB 9 (doMove (tm 0))), (wB 10 (doNilCheck (tm 9))), (wB 11 (doFieldAddr 1 (tm 10))), (wB 12 (doLoad (tm 11))), (wB 13 (doMove (tm 1))), (wB 14 (doAppendS 5 (tm 12) (tm 13))), (wB 15 (doNilCheck (tm 8))), (wB 16 (doFieldAddr 1 (tm 15))), (CO.mk G.none D.none Bool.true (CR.mk (doStore 1 (tm 16) (tm 14))))]) s24_0)
noncomputable abbrev s24_2 : CC := (CC.seq (CC.region [(wB 6 (doMove (tm 0))), (wB 7 (doCall 52 [(tm 6)]))]) s24_1)
noncomputable abbrev b24 : CC := (CC.seq (CC.region [(wB 4 (doMove (oN 0))), (wB 5 (doMove (O.c V.x0)))]) s24_2)
theorem c24 : compFn Try.prog 24 = ⟨19, b24, [(Rs.tmp (slOf 4)), (Rs.tmp (slOf 5))]⟩ := by kernel_rfl
noncomputable abbrev s31_0 : CC := (CC.seq (CC.draws [(uB 3 (doMove (tm 0))), (uB 4 (doNilCheck (tm 3))), (uB 5 (doFieldAddr 1 (tm 4))), (uB 6 (doLoad (tm 5))), (uB 7 (doSData (tm 6))), (uB 8 (doMove (tm 0))), (uB 9 (doNilCheck (tm 8))), (uB 10 (doFieldAddr 1 (tm 9))), (uB 11 (doLoad (tm 10))), (uB 12 (doLen (tm 11))), (wB 13 (doUStr 5 (tm 7) (tm 12))), (uB 2 (doMove (tm 13)))]) CC.ret)
noncomputable abbrev b31 : CC := (CC.seq (CC.region [(wB 2 (doMove (O.c (V.s 0 0))))]) s31_0)
theorem c31 : compFn Try.prog 31 = ⟨14, b31, [(Rs.tmp (slOf 2))]⟩ := by kernel_rfl
noncomputable abbrev s52_0 : CC := (CC.region [(wB 7 (doMove (tm 0))), (wB 8 (doMove (tm 0))), (wB 9 (doP2U (tm 8))), (wB 10 (doMove (tm 9))), (wB 11 (doU2P 58 2 (tm 10))), (wB 12 (doNilCheck (tm 7))), (wB 13 (doFieldAddr 0 (tm 12))), (CO.mk G.none D.none Bool.true (CR.mk (doStore 1 (tm 13) (tm 11))))])
noncomputable abbrev s52_1 : CC := (CC.cond (tm 19) CC.bad CC.skip)
noncomputable abbrev s52_2 : CC := (CC.seq (CC.region [(wB 14 (doMove (tm 0))), (wB 15 (doNilCheck (tm 14))), (wB 16 (doFieldAddr 0 (tm 15))), (wB 17 (doLoad (tm 16))), (wB 18 (doMove (tm 0))), (wB 19 (doPtr Bool.true (tm 17) (tm 18)))]) s52_1)
noncomputable abbrev s52_3 : CC := (CC.cond (tm 6) s52_0 s52_2)
noncomputable abbrev b52 : CC := (CC.seq (CC.region [(wB 2 (doMove (tm 0))), (wB 3 (doNilCheck (tm 2))), (wB 4 (doFieldAddr 0 (tm 3))), (wB 5 (doLoad (tm 4))), (wB 6 (doPtr Bool.false (tm 5) (O.c V.p0)))]) s52_3)
theorem c52 : compFn Try.prog 52 = ⟨20, b52, []⟩ := by kernel_rfl
end Go.Proofs.Ytiingkpdodbldaa

set_option maxRecDepth 100000
set_option maxHeartbeats 8000000
set_option linter.all false
namespace Go.Proofs.Ytiingkpdodbldaa
open Go Go.Ev
section
variable {h : H} {lo : Nat} {id : B} {U : B → Prop} {a : List UInt8}
theorem copyCheck_ok (s : Sb h lo 58 5 id U a) : FnOk Try.prog 52 [.p id 0 0 2] h fun y h' => Sb h' lo 58 5 id U a ∧ Stay U h h' := by
  obtain ⟨⟨adr, w, o, ha, b, hw, hn⟩, hself, hlo⟩ := s
  refine fn_go c52 (by intro hb; cases hb) (by simp) (by simp) fun Q hQ => ?_
  simp only [slotsF, Nat.reduceAdd]
  have or := o.own.row
  rcases ha with rfl | rfl
  · repeat' (first
      | refine St.h ?_
      | simp (disch := first | omega | (simp only [lnv]; omega)) only [wlk, ↓get_put', ↓reduceIte, seval, or.l1, or_ptr, h2_ptr00, h2_ptr01, h2_ptr10, h2_ptr11, or_p2u, or_u2p, o.pu, o.up]
      | (with_reducible (first | apply cd_split | apply gd_split)) <;> (intro hc; (try simp only [hcn] at hc); (try simp only [hc]); (try simp only [hcl] at hc); try omega))
    refine ST.ownE (y := .p id 0 0 2) o rfl rfl (by omega) (by omega) fun h' o' s' => ?_
    repeat' (first
      | refine St.h ?_
      | simp (disch := first | omega | (simp only [lnv]; omega)) only [wlk, ↓get_put', ↓reduceIte, seval]
      | (with_reducible (first | apply cd_split | apply gd_split)) <;> (intro hc; (try simp only [hcn] at hc); (try simp only [hc]); (try simp only [hcl] at hc); try omega))
    subst hQ
    exact ⟨⟨⟨.p id 0 0 2, w, o', .inr rfl, b.stay s' (fun i hi e => hn (by rw [← e]; exact hi)), hw, hn⟩, hself, fun i hi => ⟨(hlo i hi).1, Nat.lt_of_lt_of_le (hlo i hi).2 s'.next⟩⟩, s'.mono fun i _ hi => by rw [hi]; exact hself⟩
  · repeat' (first
      | refine St.h ?_
      | simp (disch := first | omega | (simp only [lnv]; omega)) only [wlk, ↓get_put', ↓reduceIte, seval, or.l1, or_ptr, h2_ptr00, h2_ptr01, h2_ptr10, h2_ptr11]
      | (with_reducible (first | apply cd_split | apply gd_split)) <;> (intro hc; (try simp only [hcn] at hc); (try simp only [hc]); (try simp only [hcl] at hc); try omega))
    subst hQ
    exact ⟨⟨⟨.p id 0 0 2, w, o, .inr rfl, b, hw, hn⟩, hself, hlo⟩, Stay.refl _ _⟩
theorem bld_end {h h1 h2 h3 : H} {w w' adr : V} {c : List UInt8} (hself : U id) (hlo : ∀ i, U i → lo ≤ B.val i ∧ B.val i < B.val h1.next) (hw : ∀ i, isOf w i → U i) (hn : ¬ isOf w id) (hidlt : B.val id < B.val h1.next)
    (ha : adr = .p0 ∨ adr = .p id 0 0 2) (st1 : Stay U h h1) (b2 : Buf h2 5 1 w' ((a ++ c).map bv)) (st2 : Stay (isOf w) h1 h2) (hw2 : ∀ i, isOf w' i → isOf w i ∨ B.val h1.next ≤ B.val i) (o3 : OwnE h3 id 58 [adr, w']) (st3 : Stay (fun i => i = id) h2 h3) :
    ∃ U', Sb h3 lo 58 5 id U' (a ++ c) ∧ Stay U h h3 ∧ ∀ i, U' i → U i ∨ B.val h.next ≤ B.val i := by
  have hn2 : ¬ isOf w' id := fun e => by
    rcases hw2 _ e with h7 | h7
    · exact hn h7
    · omega
  have hlo0 := (hlo _ hself).1
  refine ⟨fun i => U i ∨ isOf w' i, ⟨⟨adr, w', o3, ha, b2.stay st3 (fun i hi e => hn2 (by rw [← e]; exact hi)), fun i hi => .inr hi, hn2⟩, .inl hself, ?_⟩, ?_, ?_⟩
  · have n2 := st2.next
    have n3 := st3.next
    rintro i (hi | hi)
    · have := hlo i hi; omega
    · have h8 := b2.own hi
      rcases hw2 _ hi with h7 | h7
      · have := hlo i (hw i h7); omega
      · omega
  · exact (st1.trans (st2.mono fun i _ hi => hw i hi)).trans (st3.mono fun i _ hi => by rw [hi]; exact hself)
  · have n1 := st1.next
    rintro i (hi | hi)
    · exact .inl hi
    · rcases hw2 _ hi with h7 | h7
      · exact .inl (hw i h7)
      · exact .inr (by omega)
theorem writeString_ok {c : List UInt8} (s : Sb h lo 58 5 id U a) (hl : a.length + c.length ≤ 1048576) (hf : B.val h.floor ≤ B.val h.next) : FnOk Try.prog 24 [.p id 0 0 2, sv c] h fun y h' => ∃ U', Sb h' lo 58 5 id U' (a ++ c) ∧ Stay U h h' ∧ ∀ i, U' i → U i ∨ B.val h.next ≤ B.val i := by
  refine fn_go c24 (by intro hb; cases hb) (by simp) (by simp) fun Q hQ => ?_
  simp only [slotsF, Nat.reduceAdd]
  repeat' (first
    | refine St.h ?_
    | simp (disch := first | omega | (simp only [lnv]; omega)) only [wlk, ↓get_put', ↓reduceIte, seval]
    | (with_reducible (first | apply cd_split | apply gd_split)) <;> (intro hc; (try simp only [hcn] at hc); (try simp only [hc]); (try simp only [hcl] at hc); try omega))
  refine CL.mk (copyCheck_ok s) ?_
  rintro _ h1 ⟨⟨⟨adr, w, o, ha, b, hw, hn⟩, hself, hlo⟩, st1⟩
  have or := o.own.row
  repeat' (first
    | refine St.h ?_
    | simp (disch := first | omega | (simp only [lnv]; omega)) only [wlk, ↓get_put', ↓reduceIte, seval, or.l1]
    | (with_reducible (first | apply cd_split | apply gd_split)) <;> (intro hc; (try simp only [hcn] at hc); (try simp only [hc]); (try simp only [hcl] at hc); try omega))
  refine AS.buf b (st1.fl hf) hl fun w' h2 b2 st2 hw2 tp => ?_
  have o2 := o.stay st2 hn
  obtain ⟨c1, c2, _⟩ := buf_cells b2
  repeat' (first
    | refine St.h ?_
    | simp (disch := first | omega | (simp only [lnv]; omega)) only [wlk, ↓get_put', ↓reduceIte, seval]
    | (with_reducible (first | apply cd_split | apply gd_split)) <;> (intro hc; (try simp only [hcn] at hc); (try simp only [hc]); (try simp only [hcl] at hc); try omega))
  refine ST.ownE o2 c1 c2 (by omega) (by omega) fun h3 o3 st3 => ?_
  repeat' (first
    | refine St.h ?_
    | simp (disch := first | omega | (simp only [lnv]; omega)) only [wlk, ↓get_put', ↓reduceIte, seval]
    | (with_reducible (first | apply cd_split | apply gd_split)) <;> (intro hc; (try simp only [hcn] at hc); (try simp only [hc]); (try simp only [hcl] at hc); try omega))
  subst hQ
  exact bld_end hself hlo hw hn o.lt ha st1 b2 st2 hw2 o3 st3
theorem string_ok (s : Sb h lo 58 5 id U a) (hl : a.length ≤ 1048576) : FnOk Try.prog 31 [.p id 0 0 2] h fun y h' => y = sv a ∧ Stay U h h' := by
  refine fn_go c31 (by intro hb; cases hb) (by simp) (by simp) fun Q hQ => ?_
  simp only [slotsF, Nat.reduceAdd]
  obtain ⟨⟨adr, w, o, ha, b, hw, hn⟩, hself, hlo⟩ := s
  have or := o.own.row
  have hln := fun g N => b.lst.ln (P := Try.prog) (h := g) (N := N)
  rw [List.length_map] at hln
  obtain ⟨pv, hpv1, hpv2⟩ : ∃ pv : V, (∀ g N, H1 Try.prog gSData w g N = N.go Try.prog pv g) ∧ ∀ k : V → Bool, (vL w (fun _ => k .p0) fun id g off len fin _ => k (.p id g off fin)) = k pv := by
    rcases b with ⟨rfl, _⟩ | ⟨i, g, n, blk, rfl, b1, _⟩
    · exact ⟨.p0, fun g N => hv_of fun k => rfl, fun k => rfl⟩
    · refine ⟨.p i g 0 _, fun g N => hv_of fun k => ?_, fun k => rfl⟩
      have : Nat.ble 1 n = true := by rw [Nat.ble_eq]; exact b1
      show (ifK (Nat.ble 1 n) fun _ => k (.p i _ 0 _)) = _
      rw [this, ifK_true]
  repeat' (first
    | refine St.h ?_
    | simp (disch := first | omega | (simp only [lnv]; omega)) only [wlk, ↓get_put', ↓reduceIte, seval, or.l1, or_sdata, hpv1, hln, or_ustr]
    | (with_reducible (first | apply cd_split | apply gd_split)) <;> (intro hc; (try simp only [hcn] at hc); (try simp only [hc]); (try simp only [hcl] at hc); try omega))
  obtain ⟨h', e', st'⟩ := ustr_eq b hl (fun _ _ _ _ => false) F.zero (.c pv) (.c (.i .i64 (a.length : Int))) hpv2 rfl
  refine US.of (v := sv a) (h' := h') (fun k => ?_) ?_
  · have := e' k
    simp only [doUStr, oE_eq] at this
    exact this
  repeat' (first
    | refine St.h ?_
    | simp (disch := first | omega | (simp only [lnv]; omega)) only [wlk, ↓get_put', ↓reduceIte, seval]
    | (with_reducible (first | apply cd_split | apply gd_split)) <;> (intro hc; (try simp only [hcn] at hc); (try simp only [hc]); (try simp only [hcl] at hc); try omega))
  subst hQ
  exact ⟨rfl, st'.mono fun i _ hi => hw i hi⟩
end
end Go.Proofs.Ytiingkpdodbldaa

set_option maxRecDepth 1000000
set_option linter.all false
namespace Go.Proofs.Ytiingkpdodbldaa
open Go Go.Ev
noncomputable abbrev s76_0 : CC := (CC.cond (tm 9) CC.skip (CC.exit 0))
noncomputable abbrev s76_1 : CC := (CC.region [(wB 18 (doMove (tm 4))), (wB 19 (doMove (tm 3))), (wB 20 (bin2 fAdd (tm 18) (tm 19))), (wB 21 (doRem (tm 20) (O.c (V.i IntKind.u32 (Int.ofNat 65521))))), (wB 4 (doMove (tm 21)))])
noncomputable abbrev s76_2 : CC := (CC.seq (CC.region [(wB 11 (doMove (tm 3))), (wB 12 (doMove (tm 0))), (wB 13 (doMove (tm 5))), (wB 14 (doSIndex (tm 12) (tm 13))), (wB 15 (doConv IntKind.u32 (tm 14))), (wB 16 (bin2 fAdd (tm 11) (tm 15))), (wB 17 (doRem (tm 16) (O.c (V.i IntKind.u32 (Int.ofNat 65521))))), (wB 3 (doMove (tm 17)))]) s76_1)
noncomputable abbrev s76_3 : CC := (CC.seq (CC.region [(wB 10 (doMove (tm 8))), (wB 5 (doMove (tm 10)))]) s76_2)
noncomputable abbrev s76_4 : CC := (CC.block 1 s76_3)
noncomputable abbrev s76_5 : CC := (CC.region [(wB 22 (bin2 fAdd (tm 8) (oN 1))), (wB 8 (doMove (tm 22)))])
noncomputable abbrev s76_6 : CC := (CC.seq s76_4 s76_5)
noncomputable abbrev s76_7 : CC := (CC.seq s76_0 s76_6)
noncomputable abbrev l76_0 : CC := (CC.seq (CC.region [(wB 9 (bin2 fLss (tm 8) (tm 7)))]) s76_7)
noncomputable abbrev s76_8 : CC := (CC.loop l76_0)
noncomputable abbrev s76_9 : CC := (CC.block 0 s76_8)
noncomputable abbrev s76_10 : CC := (CC.seq (CC.region [(wB 6 (doMove (tm 0))), (wB 7 (doLenS (tm 6))), (wB 8 (doMove (oN 0)))]) s76_9)
noncomputable abbrev s76_11 : CC := (CC.seq (CC.region [(wB 23 (doMove (tm 4))), (wB 24 (doShift shlF (tm 23) (O.c (V.i IntKind.u64 (Int.ofNat 16))))), (wB 25 (doMove (tm 3))), (wB 26 (bin2 fOr (tm 24) (tm 25))), (wB 2 (doMove (tm 26)))]) CC.ret)
noncomputable abbrev s76_12 : CC := (CC.seq s76_10 s76_11)
noncomputable abbrev s76_13 : CC := (CC.seq (CC.region [(wB 3 (doMove (O.c (V.i IntKind.u32 (Int.ofNat 1))))), (wB 4 (doMove (O.c (V.i IntKind.u32 (Int.ofNat 0)))))]) s76_12)
noncomputable abbrev b76 : CC := (CC.seq (CC.region [(wB 2 (doMove (O.c (V.i IntKind.u32 (Int.ofNat 0)))))]) s76_13)
theorem c76 : compFn Try.prog 76 = ⟨27, b76, [(Rs.tmp (slOf 2))]⟩ := by kernel_rfl
noncomputable abbrev s54_0 : CC := (CC.seq (CC.region [(wB 6 (doMove (tm 3))), (wB 7 (doShift shrF (tm 6) (O.c (V.i IntKind.u64 (Int.ofNat 24))))), (wB 8 (doConv IntKind.u8 (tm 7))), (wB 9 (doMove (tm 3))), (wB 10 (doShift shrF (tm 9) (O.c (V.i IntKind.u64 (Int.ofNat 16))))), (wB 11 (doConv IntKind.u8 (tm 10))), (wB 12 (doMove (tm 3))), (wB 13 (doShift shrF (tm 12) (O.c (V.i IntKind.u64 (Int.ofNat 8))))), (wB 14 (doConv IntKind.u8 (tm 13))), (wB 15 (doMove (tm 3))), (wB 16 (doConv IntKind.u8 (tm 15))), (wB 17 (doBuildSlice 5 4 [(V.i IntKind.u8 (Int.ofNat 0)), (V.i IntKind.u8 (Int.ofNat 0)), (V.i IntKind.u8 (Int.ofNat 0)), (V.i IntKind.u8 (Int.ofNat 0))] [(Pt.mk 0 1 (tm 8)), (Pt.mk 1 1 (tm 11)), (Pt.mk 2 1 (tm 14)), (Pt.mk 3 1 (tm 16))])), (wB 18 (doB2S (tm 17))), (wB 2 (doMove (tm 18)))]) CC.ret)
noncomputable abbrev s54_1 : CC := (CC.seq (CC.region [(wB 4 (doMove (tm 0))), (wB 5 (doCall 76 [(tm 4)])), (wB 3 (doMove (tm 5)))]) s54_0)
noncomputable abbrev b54 : CC := (CC.seq (CC.region [(wB 2 (doMove (O.c (V.s 0 0))))]) s54_1)
theorem c54 : compFn Try.prog 54 = ⟨19, b54, [(Rs.tmp (slOf 2))]⟩ := by kernel_rfl
noncomputable abbrev s26_0 : CC := (CC.seq (CC.region [(wB 3 (doMove (tm 0))), (wB 4 (doLenS (tm 3))), (wB 5 (doCall 53 [(tm 4)])), (wB 6 (doMove (tm 0))), (wB 7 (doCall 54 [(tm 6)])), (wB 8 (doConcat (tm 5) (tm 7))), (wB 9 (doMove (tm 0))), (wB 10 (doConcat (tm 8) (tm 9))), (wB 2 (doMove (tm 10)))]) CC.ret)
noncomputable abbrev b26 : CC := (CC.seq (CC.region [(wB 2 (doMove (O.c (V.s 0 0))))]) s26_0)
theorem c26 : compFn Try.prog 26 = ⟨11, b26, [(Rs.tmp (slOf 2))]⟩ := by kernel_rfl
noncomputable abbrev s40_0 : CC := (CC.seq (CC.region [(wB 2 (doMove (O.c (V.s 0 0)))), (wB 3 (doMove (oN 0))), (wB 4 (doMove (oN 12)))]) CC.ret)
noncomputable abbrev s40_1 : CC := (CC.seq (CC.region [(wB 2 (doMove (O.c (V.s 0 0)))), (wB 3 (doMove (oN 0))), (wB 4 (doMove (oN 13)))]) CC.ret)
noncomputable abbrev s40_2 : CC := (CC.cond (tm 20) s40_0 s40_1)
noncomputable abbrev s40_3 : CC := (CC.seq (CC.region [(wB 21 (bin2 fEql (tm 17) (oN 12))), (wB 20 (doMove (tm 21)))]) s40_2)
noncomputable abbrev s40_4 : CC := (CC.cond (tm 18) CC.skip s40_3)
noncomputable abbrev s40_5 : CC := (CC.seq (CC.region [(wB 19 (bin2 fEql (tm 17) (oN 0))), (wB 18 (doMove (tm 19)))]) s40_4)
noncomputable abbrev s40_6 : CC := (CC.block 0 s40_5)
noncomputable abbrev s40_7 : CC := (CC.seq (CC.region [(wB 17 (doMove (tm 7)))]) s40_6)
noncomputable abbrev s40_8 : CC := (CC.seq (CC.region [(wB 2 (doMove (O.c (V.s 0 0)))), (wB 3 (doMove (oN 0))), (wB 4 (doMove (oN 12)))]) CC.ret)
noncomputable abbrev s40_9 : CC := (CC.cond (tm 29) s40_8 CC.skip)
noncomputable abbrev s40_10 : CC := (CC.seq (CC.region [(wB 25 (doMove (tm 5))), (wB 26 (doMove (tm 8))), (wB 27 (doLenS (tm 26))), (wB 28 (bin2 fSub (tm 27) (oN 4))), (wB 29 (bin2 fGtr (tm 25) (tm 28)))]) s40_9)
noncomputable abbrev s40_11 : CC := (CC.seq (CC.region [(wB 2 (doMove (O.c (V.s 0 0)))), (wB 3 (doMove (oN 0))), (wB 4 (doMove (oN 13)))]) CC.ret)
noncomputable abbrev s40_12 : CC := (CC.cond (tm 39) s40_11 CC.skip)
noncomputable abbrev s40_13 : CC := (CC.seq (CC.region [(wB 36 (doMove (tm 9))), (wB 37 (doMove (tm 10))), (wB 38 (doCall 54 [(tm 37)])), (wB 39 (doSCmp (fun a b c d => !eqS a b c d) (tm 36) (tm 38)))]) s40_12)
noncomputable abbrev s40_14 : CC := (CC.seq (CC.region [(wB 40 (doMove (tm 10))), (wB 41 (doMove (tm 6))), (wB 42 (bin2 fAdd (tm 41) (oN 4))), (wB 43 (doMove (tm 5))), (wB 44 (bin2 fAdd (tm 42) (tm 43))), (wB 2 (doMove (tm 40))), (wB 3 (doMove (tm 44))), (wB 4 (doMove (oN 0)))]) CC.ret)
noncomputable abbrev s40_15 : CC := (CC.seq s40_13 s40_14)
noncomputable abbrev s40_16 : CC := (CC.seq (CC.draws [(uB 30 (doMove (tm 8))), (uB 31 (doSSlice (tm 30) none (some (oN 4)))), (uB 32 (doMove (tm 8))), (uB 33 (doMove (tm 5))), (uB 34 (bin2 fAdd (oN 4) (tm 33))), (uB 35 (doSSlice (tm 32) (some (oN 4)) (some (tm 34)))), (uB 9 (doMove (tm 31))), (uB 10 (doMove (tm 35)))]) s40_15)
noncomputable abbrev s40_17 : CC := (CC.seq s40_10 s40_16)
noncomputable abbrev s40_18 : CC := (CC.seq (CC.region [(wB 22 (doMove (tm 0))), (wB 23 (doMove (tm 6))), (wB 24 (doSSlice (tm 22) (some (tm 23)) none)), (wB 8 (doMove (tm 24)))]) s40_17)
noncomputable abbrev s40_19 : CC := (CC.seq s40_7 s40_18)
noncomputable abbrev s40_20 : CC := (CC.seq (CC.region [(wB 12 (doMove (tm 0))), (wB 13 (doCall 64 [(tm 12)])), (wB 11 (doMove (tm 13))), (wB 14 (doExtract 0 (tm 11))), (wB 15 (doExtract 1 (tm 11))), (wB 16 (doExtract 2 (tm 11))), (wB 5 (doMove (tm 14))), (wB 6 (doMove (tm 15))), (wB 7 (doMove (tm 16)))]) s40_19)
noncomputable abbrev b40 : CC := (CC.seq (CC.region [(wB 2 (doMove (O.c (V.s 0 0)))), (wB 3 (doMove (oN 0))), (wB 4 (doMove (oN 0)))]) s40_20)
theorem c40 : compFn Try.prog 40 = ⟨45, b40, [(Rs.tmp (slOf 2)), (Rs.tmp (slOf 3)), (Rs.tmp (slOf 4))]⟩ := by kernel_rfl
noncomputable abbrev s60_0 : CC := (CC.seq (CC.region [(wB 3 (doMove (tm 0))), (wB 4 (doShift shrF (tm 3) (O.c (V.i IntKind.u64 (Int.ofNat 24))))), (wB 5 (doConv IntKind.u8 (tm 4))), (wB 6 (doMove (tm 0))), (wB 7 (doShift shrF (tm 6) (O.c (V.i IntKind.u64 (Int.ofNat 16))))), (wB 8 (doConv IntKind.u8 (tm 7))), (wB 9 (doMove (tm 0))), (wB 10 (doShift shrF (tm 9) (O.c (V.i IntKind.u64 (Int.ofNat 8))))), (wB 11 (doConv IntKind.u8 (tm 10))), (wB 12 (doMove (tm 0))), (wB 13 (doConv IntKind.u8 (tm 12))), (wB 14 (doBuildSlice 5 4 [(V.i IntKind.u8 (Int.ofNat 0)), (V.i IntKind.u8 (Int.ofNat 0)), (V.i IntKind.u8 (Int.ofNat 0)), (V.i IntKind.u8 (Int.ofNat 0))] [(Pt.mk 0 1 (tm 5)), (Pt.mk 1 1 (tm 8)), (Pt.mk 2 1 (tm 11)), (Pt.mk 3 1 (tm 13))])), (wB 15 (doB2S (tm 14))), (wB 2 (doMove (tm 15)))]) CC.ret)
noncomputable abbrev b60 : CC := (CC.seq (CC.region [(wB 2 (doMove (O.c (V.s 0 0))))]) s60_0)
theorem c60 : compFn Try.prog 60 = ⟨16, b60, [(Rs.tmp (slOf 2))]⟩ := by kernel_rfl
end Go.Proofs.Ytiingkpdodbldaa

set_option maxRecDepth 100000
set_option maxHeartbeats 8000000
set_option linter.all false
namespace Go.Proofs.Ytiingkpdodbldaa
open Go Go.Ev
theorem sum_ok {h : H} {l : List UInt8} (hl : l.length ≤ 1000000) : FnOk Try.prog 76 [sv l] h fun y h' => y = .i .u32 (sumB l : Int) ∧ h' = h := by
  refine fn_go c76 (by intro hb; cases hb) (by simp) (by simp) fun Q hQ => ?_
  simp only [slotsF, Nat.reduceAdd]
  repeat' (first
    | refine St.h ?_
    | simp (disch := first | omega | (simp only [lnv]; omega)) only [wlk, ↓get_put', ↓reduceIte, seval]
    | (with_reducible (first | apply cd_split | apply gd_split)) <;> (intro hc; (try simp only [hcn] at hc); (try simp only [hc]); (try simp only [hcl] at hc); try omega))
  refine Ok.lp (fun m t g => ∃ i : Nat, i ≤ l.length ∧ m = l.length - i ∧ g = h ∧ get 0 t = sv l ∧ get 3 t = .i .u32 ((adl (l.take i)).1 : Int) ∧ get 4 t = .i .u32 ((adl (l.take i)).2 : Int) ∧ get 7 t = .i .i64 (l.length : Int) ∧ get 8 t = .i .i64 (i : Int)) l.length ?_ ?_
  · simp (disch := first | omega | (simp only [lnv]; omega)) only [wlk, ↓get_put', ↓reduceIte, seval]
    exact ⟨0, by omega, rfl, trivial, trivial, rfl, rfl, trivial, rfl⟩
  rintro I hI m t g ⟨i, hi, rfl, rfl, f0, f3, f4, f7, f8⟩
  have hci := (l.getD i 0).toNat_lt
  have ⟨b1, b2⟩ := adl_lt (l.take i)
  repeat' (first
    | refine St.h ?_
    | simp (disch := first | omega | (simp only [lnv]; omega)) only [wlk, ↓get_put', ↓reduceIte, seval, f0, f3, f4, f7, f8]
    | (with_reducible (first | apply cd_split | apply gd_split)) <;> (intro hc; (try simp only [hcn] at hc); (try simp only [hc]); (try simp only [hcl] at hc); try omega))
  · have e := adl_take (l := l) (i := i) (by omega)
    refine lp_next hI (l.length - (i + 1)) (by omega) ⟨i + 1, by omega, rfl, rfl, ?_, ?_, ?_, ?_, ?_⟩
    · simp (disch := first | omega | (simp only [lnv]; omega)) only [wlk, ↓get_put', ↓reduceIte, seval, f0]
    · simp (disch := first | omega | (simp only [lnv]; omega)) only [wlk, ↓get_put', ↓reduceIte, seval, e, adlStep]; rfl
    · simp (disch := first | omega | (simp only [lnv]; omega)) only [wlk, ↓get_put', ↓reduceIte, seval, e, adlStep]; rfl
    · simp (disch := first | omega | (simp only [lnv]; omega)) only [wlk, ↓get_put', ↓reduceIte, seval, f7]
    · simp (disch := first | omega | (simp only [lnv]; omega)) only [wlk, ↓get_put', ↓reduceIte, seval]; rfl
  · obtain rfl : i = l.length := by omega
    rw [List.take_length] at *
    have e : (((adl l).2 : Int) * 65536).toNat ||| (adl l).1 = sumB l := by
      rw [show (((adl l).2 : Int) * 65536).toNat = 2 ^ 16 * (adl l).2 by omega, ← Nat.two_pow_add_eq_or_of_lt (by omega)]
      unfold sumB; omega
    subst hQ
    simp (disch := first | omega | (simp only [lnv]; omega)) only [wlk, ↓get_put', ↓reduceIte, seval, e]
theorem fourB_cells {n : Nat} (h : n < 4294967296) : ([V.i .u8 ((n / 16777216 : Nat) : Int), V.i .u8 ((n / 65536 % 256 : Nat) : Int), V.i .u8 ((n / 256 % 256 : Nat) : Int), V.i .u8 ((n % 256 : Nat) : Int)] : List V) = (fourB n).map bv := by
  have e1 : n / 16777216 = n / 16777216 % 256 := by omega
  rw [e1]
  simp only [bv_ofNat]
  unfold fourB
  simp [u8_mod]
theorem four_ok {h : H} {n : Nat} (hn : n < 4294967296) (hf : B.val h.floor ≤ B.val h.next) : FnOk Try.prog 60 [.i .u32 (n : Int)] h fun y h' => y = sv (fourB n) ∧ Stay nowhere h h' := by
  refine fn_go c60 (by intro hb; cases hb) (by simp) (by simp) fun Q hQ => ?_
  simp only [slotsF, Nat.reduceAdd]
  repeat' (first
    | refine St.h ?_
    | simp (disch := first | omega | (simp only [lnv]; omega)) only [wlk, ↓get_put', ↓reduceIte, seval, wrap_u8m]
    | (with_reducible (first | apply cd_split | apply gd_split)) <;> (intro hc; (try simp only [hcn] at hc); (try simp only [hc]); (try simp only [hcl] at hc); try omega))
  refine AL.str (bs := fourB n) (fourB_cells hn) (by simp [fourB]) rfl rfl (by simp [fourB]) hf fun h' u s1 => ?_
  repeat' (first
    | refine St.h ?_
    | simp (disch := first | omega | (simp only [lnv]; omega)) only [wlk, ↓get_put', ↓reduceIte, seval]
    | (with_reducible (first | apply cd_split | apply gd_split)) <;> (intro hc; (try simp only [hcn] at hc); (try simp only [hc]); (try simp only [hcl] at hc); try omega))
  subst hQ
  exact ⟨rfl, s1⟩
theorem sumBytes_ok {h : H} {l : List UInt8} (hl : l.length ≤ 1000000) (hf : B.val h.floor ≤ B.val h.next) : FnOk Try.prog 54 [sv l] h fun y h' => y = sv (fourB (sumB l)) ∧ Stay nowhere h h' := by
  refine fn_go c54 (by intro hb; cases hb) (by simp) (by simp) fun Q hQ => ?_
  simp only [slotsF, Nat.reduceAdd]
  have hn := sumB_lt l
  repeat' (first
    | refine St.h ?_
    | simp (disch := first | omega | (simp only [lnv]; omega)) only [wlk, ↓get_put', ↓reduceIte, seval]
    | (with_reducible (first | apply cd_split | apply gd_split)) <;> (intro hc; (try simp only [hcn] at hc); (try simp only [hc]); (try simp only [hcl] at hc); try omega))
  refine CL.pure (sum_ok hl) ?_
  repeat' (first
    | refine St.h ?_
    | simp (disch := first | omega | (simp only [lnv]; omega)) only [wlk, ↓get_put', ↓reduceIte, seval, wrap_u8m]
    | (with_reducible (first | apply cd_split | apply gd_split)) <;> (intro hc; (try simp only [hcn] at hc); (try simp only [hc]); (try simp only [hcl] at hc); try omega))
  refine AL.str (bs := fourB (sumB l)) (fourB_cells hn) (by simp [fourB]) rfl rfl (by simp [fourB]) hf fun h' u s1 => ?_
  repeat' (first
    | refine St.h ?_
    | simp (disch := first | omega | (simp only [lnv]; omega)) only [wlk, ↓get_put', ↓reduceIte, seval]
    | (with_reducible (first | apply cd_split | apply gd_split)) <;> (intro hc; (try simp only [hcn] at hc); (try simp only [hc]); (try simp only [hcl] at hc); try omega))
  subst hQ
  exact ⟨rfl, s1⟩
theorem seal_ok {h : H} {l : List UInt8} (hl : l.length ≤ 1000000) (hf : B.val h.floor ≤ B.val h.next) : FnOk Try.prog 26 [sv l] h fun y h' => y = sv (sealB l) ∧ Stay nowhere h h' := by
  refine fn_go c26 (by intro hb; cases hb) (by simp) (by simp) fun Q hQ => ?_
  simp only [slotsF, Nat.reduceAdd]
  have h9 := numB_len (n := l.length) (by omega)
  have h4 := fourB_len (sumB l)
  repeat' (first
    | refine St.h ?_
    | simp (disch := first | omega | (simp only [lnv]; omega)) only [wlk, ↓get_put', ↓reduceIte, seval]
    | (with_reducible (first | apply cd_split | apply gd_split)) <;> (intro hc; (try simp only [hcn] at hc); (try simp only [hc]); (try simp only [hcl] at hc); try omega))
  refine CL.stay (num_ok (by omega) hf) fun h1 s1 => ?_
  repeat' (first
    | refine St.h ?_
    | simp (disch := first | omega | (simp only [lnv]; omega)) only [wlk, ↓get_put', ↓reduceIte, seval]
    | (with_reducible (first | apply cd_split | apply gd_split)) <;> (intro hc; (try simp only [hcn] at hc); (try simp only [hc]); (try simp only [hcl] at hc); try omega))
  refine CL.stay (sumBytes_ok hl (s1.fl hf)) fun h2 s2 => ?_
  repeat' (first
    | refine St.h ?_
    | simp (disch := first | omega | (simp only [lnv]; omega)) only [wlk, ↓get_put', ↓reduceIte, seval]
    | (with_reducible (first | apply cd_split | apply gd_split)) <;> (intro hc; (try simp only [hcn] at hc); (try simp only [hc]); (try simp only [hcl] at hc); try omega))
  subst hQ
  exact ⟨rfl, s1.trans s2⟩
/-- what Open tells, as a value -/
def opn (l : List UInt8) : V := .tu [sv (openB l).1, .i .i64 (openB l).2.1, .i .i64 (openB l).2.2]
theorem open_ok {h : H} {l : List UInt8} (hl : l.length ≤ 1000000) (hf : B.val h.floor ≤ B.val h.next) : FnOk Try.prog 40 [sv l] h fun y h' => y = opn l ∧ Stay nowhere h h' := by
  refine fn_go c40 (by intro hb; cases hb) (by simp) (by simp) fun Q hQ => ?_
  simp only [slotsF, Nat.reduceAdd]
  repeat' (first
    | refine St.h ?_
    | simp (disch := first | omega | (simp only [lnv]; omega)) only [wlk, ↓get_put', ↓reduceIte, seval]
    | (with_reducible (first | apply cd_split | apply gd_split)) <;> (intro hc; (try simp only [hcn] at hc); (try simp only [hc]); (try simp only [hcl] at hc); try omega))
  refine CL.pure (takeNum_ok hl) ?_
  rcases takeN_range l with (hc | hc) | ⟨n, k, hc, h1, h2, h3, h4⟩
  · have e : openB l = ([], 0, 13) := by unfold openB; rw [hc]; rfl
    rw [hc]; unfold tri
    repeat' (first
      | refine St.h ?_
      | simp (disch := first | omega | (simp only [lnv]; omega)) only [wlk, ↓get_put', ↓reduceIte, seval]
      | (with_reducible (first | apply cd_split | apply gd_split)) <;> (intro hc; (try simp only [hcn] at hc); (try simp only [hc]); (try simp only [hcl] at hc); try omega))
    subst hQ
    exact ⟨by unfold opn; rw [e], Stay.refl _ _⟩
  · have e : openB l = ([], 0, 12) := by unfold openB; rw [hc]; rfl
    rw [hc]; unfold tri
    repeat' (first
      | refine St.h ?_
      | simp (disch := first | omega | (simp only [lnv]; omega)) only [wlk, ↓get_put', ↓reduceIte, seval]
      | (with_reducible (first | apply cd_split | apply gd_split)) <;> (intro hc; (try simp only [hcn] at hc); (try simp only [hc]); (try simp only [hcl] at hc); try omega))
    subst hQ
    exact ⟨by unfold opn; rw [e], Stay.refl _ _⟩
  have e := openB_num hc
  rw [hc]; unfold tri
  have hd : (l.drop k).length = l.length - k := List.length_drop
  repeat' (first
    | refine St.h ?_
    | simp (disch := first | omega | (simp only [lnv]; omega)) only [wlk, ↓get_put', ↓reduceIte, seval, Int.toNat_natCast]
    | (with_reducible (first | apply cd_split | apply gd_split)) <;> (intro hc; (try simp only [hcn] at hc); (try simp only [hc]); (try simp only [hcl] at hc); try omega))
  · rw [if_pos (by omega)] at e
    subst hQ
    exact ⟨by unfold opn; rw [e], Stay.refl _ _⟩
  rw [if_neg (by omega)] at e
  have ht : ((l.drop k).take (4 + (n : Int)).toNat).drop 4 = (l.drop (k + 4)).take n := by
    rw [show (4 + (n : Int)).toNat = 4 + n by omega, List.drop_take, List.drop_drop]
    congr 1; omega
  rw [ht]
  have htl : ((l.drop (k + 4)).take n).length ≤ 1000000 := by rw [List.length_take, List.length_drop]; omega
  refine CL.stay (sumBytes_ok htl hf) fun h1' s1 => ?_
  repeat' (first
    | refine St.h ?_
    | simp (disch := first | omega | (simp only [lnv]; omega)) only [wlk, ↓get_put', ↓reduceIte, seval]
    | (with_reducible (first | apply cd_split | apply gd_split)) <;> (intro hc; (try simp only [hcn] at hc); (try simp only [hc]); (try simp only [hcl] at hc); try omega))
  all_goals subst hQ
  · rw [if_pos (fun e' => hc e'.symm)] at e
    exact ⟨by unfold opn; rw [e], s1⟩
  · rw [if_neg (by intro e'; exact e' hc.symm)] at e
    exact ⟨by unfold opn; rw [e], s1⟩
end Go.Proofs.Ytiingkpdodbldaa

set_option maxRecDepth 100000
set_option maxHeartbeats 8000000
set_option linter.all false
namespace Go.Proofs.Ytiingkpdodbldaa
open Go Go.Ev
theorem getD_all {p : Ent → Bool} {L : List Ent} (h : L.all p = true) {i : Nat} (hi : i < L.length) : p (L.getD i default) = true := by
  rw [show L.getD i default = L[i] by simp [List.getD, hi]]
  exact (List.all_eq_true.1 h) _ (by simp)
theorem drop_ent {L : List Ent} {i : Nat} (hi : i < L.length) : L.drop i = L.getD i default :: L.drop (i + 1) := by
  rw [List.drop_eq_getElem_cons hi]; simp [List.getD, hi]
end Go.Proofs.Ytiingkpdodbldaa

set_option maxRecDepth 100000
set_option maxHeartbeats 8000000
set_option linter.all false
namespace Go.Proofs.Ytiingkpdodbldaa
open Go Go.Ev
theorem bshared_ok {h : H} {a b : List UInt8} (ha : a.length ≤ 1000000) (hb : b.length ≤ 1000000) : FnOk Try.prog 73 [sv a, sv b] h fun y h' => y = .i .i64 (sharedB a b : Int) ∧ h' = h := by
  refine fn_go c73 (by intro hb; cases hb) (by simp) (by simp) fun Q hQ => ?_
  simp only [slotsF, Nat.reduceAdd]
  repeat' (first
    | refine St.h ?_
    | simp (disch := first | omega | (simp only [lnv]; omega)) only [wlk, ↓get_put', ↓reduceIte, seval]
    | (with_reducible (first | apply cd_split | apply gd_split)) <;> (intro hc; (try simp only [hcn] at hc); (try simp only [hc]); (try simp only [hcl] at hc); try omega))
  have hmn : (min (a.length : Int) (b.length : Int)) = ((min a.length b.length : Nat) : Int) := by omega
  refine Ok.lp (fun m t g => ∃ n : Nat, m = a.length - n ∧ h = g ∧ n ≤ a.length ∧ n ≤ b.length ∧ (∀ i, i < n → a.getD i 0 = b.getD i 0) ∧ get 0 t = sv a ∧ get 1 t = sv b ∧ get 5 t = .i .i64 ((min a.length b.length : Nat) : Int) ∧ get 6 t = .i .i64 (n : Int)) a.length ?_ ?_
  · simp (disch := first | omega | (simp only [lnv]; omega)) only [wlk, ↓get_put', ↓reduceIte, seval, hmn]
    refine ⟨0, by omega, trivial, by omega, by omega, fun i hi => by omega, ?_⟩
    repeat' (first | trivial | rfl | refine And.intro ?_ ?_)
  rintro I hI m t g ⟨n, rfl, rfl, h1, h2, he, f0, f1, f5, f6⟩
  have da : n < a.length → (a.getD n 0).toNat < 256 := fun _ => (a.getD n 0).toNat_lt
  have fin : (n = a.length ∨ n = b.length ∨ a.getD n 0 ≠ b.getD n 0) → sharedB a b = n := sharedB_at h1 h2 he
  repeat' (first
    | refine St.h ?_
    | simp (disch := first | omega | (simp only [lnv]; omega)) only [wlk, ↓get_put', ↓reduceIte, seval, f0, f1, f5, f6, Int.toNat_natCast]
    | (with_reducible (first | apply cd_split | apply gd_split)) <;> (intro hc; (try simp only [hcn] at hc); (try simp only [hc]); (try simp only [hcl] at hc); try omega))
  · refine lp_next hI (a.length - (n + 1)) (by omega) ⟨n + 1, rfl, rfl, by omega, by omega, fun i hi => ?_, ?_, ?_, ?_, ?_⟩
    · by_cases e : i = n
      · subst e; exact UInt8.toNat_inj.1 (by omega)
      · exact he i (by omega)
    · simp (disch := first | omega | (simp only [lnv]; omega)) only [wlk, ↓get_put', ↓reduceIte, seval, f0]
    · simp (disch := first | omega | (simp only [lnv]; omega)) only [wlk, ↓get_put', ↓reduceIte, seval, f1]
    · simp (disch := first | omega | (simp only [lnv]; omega)) only [wlk, ↓get_put', ↓reduceIte, seval, f5]
    · simp (disch := first | omega | (simp only [lnv]; omega)) only [wlk, ↓get_put', ↓reduceIte, seval]; rfl
  · subst hQ
    exact ⟨by rw [fin (.inr (.inr fun e => by have := congrArg UInt8.toNat e; omega))], rfl⟩
  · subst hQ
    exact ⟨by rw [fin (by omega)], rfl⟩
theorem drop_bytes {e : Ent} (hi : isE e = true) : (bytesE e).drop (textB e.key).length = tailB e := by
  unfold bytesE; rw [hi]; simp
theorem bytesE_full {e : Ent} (hi : isE e = true) : bytesE e = textB e.key ++ tailB e := by unfold bytesE; rw [hi]; rfl
theorem lay_ok {h : H} {v : V} {L : List Ent} (hL : Es h v L) (hl : L.length ≤ 10000) (ha : L.all isE = true) (hf : B.val h.floor ≤ B.val h.next) : FnOk Try.prog 50 [v] h fun y h' => y = sv (bodyB [] L) ∧ Stay nowhere h h' := by
  refine fn_go c50 (by intro hb; cases hb) (by simp) (by simp) fun Q hQ => ?_
  simp only [slotsF, Nat.reduceAdd]
  repeat' (first
    | refine St.h ?_
    | simp (disch := first | omega | (simp only [lnv]; omega)) only [wlk, ↓get_put', ↓reduceIte, seval]
    | (with_reducible (first | apply cd_split | apply gd_split)) <;> (intro hc; (try simp only [hcn] at hc); (try simp only [hc]); (try simp only [hcl] at hc); try omega))
  refine AL.ownE (by simp) hf fun h1 s1 n1 o1 => ?_
  have hf1 := s1.fl hf
  have hL1 := hL.grow s1
  have sb : Sb h1 (B.val h.next) 58 5 h.next (fun i => i = h.next) [] :=
    ⟨⟨.p0, .l0, o1, .inl rfl, Buf.nil _ _ _, fun i hi => absurd hi (by rintro ⟨_, _, _, _, _, e⟩; cases e), by rintro ⟨_, _, _, _, _, e⟩; cases e⟩, rfl, fun i hi => by rw [hi]; exact ⟨Nat.le_refl _, by omega⟩⟩
  have hbl := bodyB_len (p := []) ha
  repeat' (first
    | refine St.h ?_
    | simp (disch := first | omega | (simp only [lnv]; omega)) only [wlk, ↓get_put', ↓reduceIte, seval, hL.ln]
    | (with_reducible (first | apply cd_split | apply gd_split)) <;> (intro hc; (try simp only [hcn] at hc); (try simp only [hc]); (try simp only [hcl] at hc); try omega))
  refine Ok.lp (fun m t g => ∃ (j : Nat) (p out : List UInt8) (U : B → Prop), m = L.length - j ∧ j ≤ L.length ∧ p.length ≤ 13 ∧ bodyB [] L = out ++ bodyB p (L.drop j) ∧ Stay nowhere h g ∧ Sb g (B.val h.next) 58 5 h.next U out ∧ get 0 t = v ∧ get 3 t = .p h.next 0 0 2 ∧ get 4 t = sv p ∧ get 8 t = v ∧ get 9 t = .i .i64 (L.length : Int) ∧ get 10 t = .i .i64 (j : Int)) L.length ?_ ?_
  · simp (disch := first | omega | (simp only [lnv]; omega)) only [wlk, ↓get_put', ↓reduceIte, seval]
    refine ⟨0, [], [], _, by omega, by omega, by simp, rfl, s1, sb, ?_⟩
    repeat' (first | trivial | rfl | refine And.intro ?_ ?_)
  rintro I hI m t g ⟨j, p, out, U, rfl, hj, hp, hb, st, sbg, f0, f3, f4, f8, f9, f10⟩
  have hfg := st.fl hf
  have hLg := hL.grow st
  by_cases hjl : j < L.length
  case neg =>
    obtain rfl : j = L.length := by omega
    have hb : bodyB [] L = out := by rw [hb, List.drop_length]; simp [bodyB]
    repeat' (first
      | refine St.h ?_
      | simp (disch := first | omega | (simp only [lnv]; omega)) only [wlk, ↓get_put', ↓reduceIte, seval, f3, f9, f10]
      | (with_reducible (first | apply cd_split | apply gd_split)) <;> (intro hc; (try simp only [hcn] at hc); (try simp only [hc]); (try simp only [hcl] at hc); try omega))
    refine CL.mk (string_ok sbg (by rw [← hb]; omega)) ?_
    rintro _ g2 ⟨rfl, s2⟩
    repeat' (first
      | refine St.h ?_
      | simp (disch := first | omega | (simp only [lnv]; omega)) only [wlk, ↓get_put', ↓reduceIte, seval]
      | (with_reducible (first | apply cd_split | apply gd_split)) <;> (intro hc; (try simp only [hcn] at hc); (try simp only [hc]); (try simp only [hcl] at hc); try omega))
    subst hQ
    exact ⟨by rw [hb], st.past' s2 fun i hi => (sbg.lo i hi).1⟩
  have hi := getD_all ha hjl
  rw [drop_ent hjl] at hb
  generalize he : L.getD j default = e at hi hb
  obtain ⟨k1, k2, k3, k4⟩ := isE_len hi
  have hsl := sharedB_le e.key p
  have hsc := sharedB_comm p e.key
  have hlen : (bodyB [] L).length ≤ 800000 := by omega
  have hb2 : bodyB p (e :: L.drop (j + 1)) = oneB p e ++ bodyB e.key (L.drop (j + 1)) := rfl
  rw [hb2] at hb
  have hol : out.length + (oneB p e).length ≤ 800000 := by
    rw [hb] at hlen; simp only [List.length_append] at hlen; omega
  have hone : (oneB p e).length = (numB (sharedB e.key p)).length + (textB (e.key.drop (sharedB e.key p))).length + (tailB e).length := by unfold oneB; simp only [List.length_append]
  have l1 := textB_len e.key (by omega)
  have l2 := tailB_len hi
  have hbl2 : (bytesE e).length = (textB e.key).length + (tailB e).length := by rw [bytesE_full hi, List.length_append]
  repeat' (first
    | refine St.h ?_
    | simp (disch := first | omega | (simp only [lnv]; omega)) only [wlk, ↓get_put', ↓reduceIte, seval, f0, f3, f4, f8, f9, f10, hL.ix, hLg.la, he, Int.toNat_natCast]
    | (with_reducible (first | apply cd_split | apply gd_split)) <;> (intro hc; (try simp only [hcn] at hc); (try simp only [hc]); (try simp only [hcl] at hc); try omega))
  refine AL.own (by simp) hfg fun g1 t1 m1 o1 => ?_
  have hfg1 := t1.fl hfg
  repeat' (first
    | refine St.h ?_
    | simp (disch := first | omega | (simp only [lnv]; omega)) only [wlk, ↓get_put', ↓reduceIte, seval, f0, f3, f4, f8, f9, f10]
    | (with_reducible (first | apply cd_split | apply gd_split)) <;> (intro hc; (try simp only [hcn] at hc); (try simp only [hc]); (try simp only [hcl] at hc); try omega))
  refine ST.all o1 rfl rfl (by simp) (by simp) fun g2 o2 t2 => ?_
  have t12 : Stay nowhere g g2 := t1.past' t2 fun q hq => by rw [hq]; exact Nat.le_refl _
  have hfg2 := t12.fl hfg
  have sb2 := sbg.stay t12 fun _ _ h => h
  have hnU : ¬ U g.next := fun hu => absurd (sbg.lo _ hu).2 (Nat.lt_irrefl _)
  repeat' (first
    | refine St.h ?_
    | simp (disch := first | omega | (simp only [lnv]; omega)) only [wlk, ↓get_put', ↓reduceIte, seval, f0, f3, f4, f8, f9, f10, o2.row.l1]
    | (with_reducible (first | apply cd_split | apply gd_split)) <;> (intro hc; (try simp only [hcn] at hc); (try simp only [hc]); (try simp only [hcl] at hc); try omega))
  refine CL.pure (bshared_ok (by omega) (by omega)) ?_
  rw [hsc]
  repeat' (first
    | refine St.h ?_
    | simp (disch := first | omega | (simp only [lnv]; omega)) only [wlk, ↓get_put', ↓reduceIte, seval, f0, f3, f4, f8, f9, f10]
    | (with_reducible (first | apply cd_split | apply gd_split)) <;> (intro hc; (try simp only [hcn] at hc); (try simp only [hc]); (try simp only [hcl] at hc); try omega))
  refine CL.stay (num_ok (by omega) hfg2) fun g3 t3 => ?_
  have hfg3 := t3.fl hfg2
  have sb3 := sb2.stay t3 fun _ _ h => h
  have o3 := o2.stay t3 fun h => h
  repeat' (first
    | refine St.h ?_
    | simp (disch := first | omega | (simp only [lnv]; omega)) only [wlk, ↓get_put', ↓reduceIte, seval, f0, f3, f4, f8, f9, f10, Int.toNat_natCast]
    | (with_reducible (first | apply cd_split | apply gd_split)) <;> (intro hc; (try simp only [hcn] at hc); (try simp only [hc]); (try simp only [hcl] at hc); try omega))
  refine CL.mk (writeString_ok sb3 (by omega) hfg3) ?_
  rintro _ g4 ⟨U4, sb4, t4, hU4⟩
  have hfg4 := t4.fl hfg3
  have o4 := o3.stay t4 hnU
  have hn3 : B.val g.next < B.val g3.next := own_lt' o3
  have hnU4 : ¬ U4 g.next := fun hu => by
    rcases hU4 _ hu with h7 | h7
    · exact hnU h7
    · omega
  repeat' (first
    | refine St.h ?_
    | simp (disch := first | omega | (simp only [lnv]; omega)) only [wlk, ↓get_put', ↓reduceIte, seval, f0, f3, f4, f8, f9, f10, o4.row.l1, Int.toNat_natCast]
    | (with_reducible (first | apply cd_split | apply gd_split)) <;> (intro hc; (try simp only [hcn] at hc); (try simp only [hc]); (try simp only [hcl] at hc); try omega))
  refine CL.stay (text_ok (by rw [List.length_drop]; omega) hfg4) fun g5 t5 => ?_
  have hfg5 := t5.fl hfg4
  have sb5 := sb4.stay t5 fun _ _ h => h
  have o5 := o4.stay t5 fun h => h
  have hn5 : B.val g.next < B.val g5.next := own_lt' o5
  repeat' (first
    | refine St.h ?_
    | simp (disch := first | omega | (simp only [lnv]; omega)) only [wlk, ↓get_put', ↓reduceIte, seval, f0, f3, f4, f8, f9, f10]
    | (with_reducible (first | apply cd_split | apply gd_split)) <;> (intro hc; (try simp only [hcn] at hc); (try simp only [hc]); (try simp only [hcl] at hc); try omega))
  refine CL.mk (writeString_ok sb5 (by simp only [List.length_append]; omega) hfg5) ?_
  rintro _ g6 ⟨U6, sb6, t6, hU6⟩
  have hfg6 := t6.fl hfg5
  have o6 := o5.stay t6 hnU4
  have hnU6 : ¬ U6 g.next := fun hu => by
    rcases hU6 _ hu with h7 | h7
    · exact hnU4 h7
    · omega
  repeat' (first
    | refine St.h ?_
    | simp (disch := first | omega | (simp only [lnv]; omega)) only [wlk, ↓get_put', ↓reduceIte, seval, f0, f3, f4, f8, f9, f10, o6.row.ln]
    | (with_reducible (first | apply cd_split | apply gd_split)) <;> (intro hc; (try simp only [hcn] at hc); (try simp only [hc]); (try simp only [hcl] at hc); try omega))
  refine CL.stayU (bytes_ok (re_fl _)) fun g7 t7 => ?_
  have hfg7 := t7.fl hfg6
  have sb7 := sb6.stay t7 fun _ _ h => h
  have o7 := o6.stay t7 fun h => h
  repeat' (first
    | refine St.h ?_
    | simp (disch := first | omega | (simp only [lnv]; omega)) only [wlk, ↓get_put', ↓reduceIte, seval, f0, f3, f4, f8, f9, f10, o7.row.l1]
    | (with_reducible (first | apply cd_split | apply gd_split)) <;> (intro hc; (try simp only [hcn] at hc); (try simp only [hc]); (try simp only [hcl] at hc); try omega))
  refine CL.stay (text_ok (by omega) hfg7) fun g8 t8 => ?_
  have hfg8 := t8.fl hfg7
  have sb8 := sb7.stay t8 fun _ _ h => h
  have o8 := o7.stay t8 fun h => h
  have hn8 : B.val g.next < B.val g8.next := own_lt' o8
  have hdb := drop_bytes hi
  repeat' (first
    | refine St.h ?_
    | simp (disch := first | omega | (simp only [lnv]; omega)) only [wlk, ↓get_put', ↓reduceIte, seval, f0, f3, f4, f8, f9, f10, Int.toNat_natCast, hdb]
    | (with_reducible (first | apply cd_split | apply gd_split)) <;> (intro hc; (try simp only [hcn] at hc); (try simp only [hc]); (try simp only [hcl] at hc); try omega))
  refine CL.mk (writeString_ok sb8 (by simp only [List.length_append]; omega) hfg8) ?_
  rintro _ g9 ⟨U9, sb9, t9, hU9⟩
  have o9 := o8.stay t9 hnU6
  have a4 := ((st.trans t12).trans t3).past' t4 fun q hq => (sb3.lo q hq).1
  have a6 := (a4.trans t5).past' t6 fun q hq => (sb5.lo q hq).1
  have a9 := ((a6.trans t7).trans t8).past' t9 fun q hq => (sb8.lo q hq).1
  repeat' (first
    | refine St.h ?_
    | simp (disch := first | omega | (simp only [lnv]; omega)) only [wlk, ↓get_put', ↓reduceIte, seval, f0, f3, f4, f8, f9, f10, o9.row.l1]
    | (with_reducible (first | apply cd_split | apply gd_split)) <;> (intro hc; (try simp only [hcn] at hc); (try simp only [hc]); (try simp only [hcl] at hc); try omega))
  refine lp_next hI (L.length - (j + 1)) (by omega) ⟨j + 1, e.key, out ++ oneB p e, U9, rfl, by omega, k1, by rw [hb]; simp, a9, by unfold oneB; simpa using sb9, ?_, ?_, ?_, ?_, ?_, ?_⟩
  all_goals (simp (disch := first | omega | (simp only [lnv]; omega)) only [wlk, ↓get_put', ↓reduceIte, seval, f0, f3, f8, f9]; try rfl)
theorem bmake_ok {h : H} {v : V} {L : List Ent} (hL : Es h v L) (hl : L.length ≤ 10000) (hf : B.val h.floor ≤ B.val h.next) : FnOk Try.prog 22 [v] h fun y h' => y = .tu [sv (blkE L).1, .i .i64 (blkE L).2] ∧ Stay nowhere h h' := by
  refine fn_go c22 (by intro hb; cases hb) (by simp) (by simp) fun Q hQ => ?_
  simp only [slotsF, Nat.reduceAdd]
  by_cases h0 : L.length = 0
  · have : L = [] := List.eq_nil_of_length_eq_zero h0
    subst this
    repeat' (first
      | refine St.h ?_
      | simp (disch := first | omega | (simp only [lnv]; omega)) only [wlk, ↓get_put', ↓reduceIte, seval, hL.ln]
      | (with_reducible (first | apply cd_split | apply gd_split)) <;> (intro hc; (try simp only [hcn] at hc); (try simp only [hc]); (try simp only [hcl] at hc); try omega))
    subst hQ
    exact ⟨by rw [blkE_nil], Stay.refl _ _⟩
  have hd : ((L.length : Int) = 0) = False := eq_false (by omega)
  repeat' (first
    | refine St.h ?_
    | simp (disch := first | omega | (simp only [lnv]; omega)) only [wlk, ↓get_put', ↓reduceIte, seval, hL.ln, hd]
    | (with_reducible (first | apply cd_split | apply gd_split)) <;> (intro hc; (try simp only [hcn] at hc); (try simp only [hc]); (try simp only [hcl] at hc); try omega))
  refine Ok.lp (fun m t g => ∃ j : Nat, m = L.length - j ∧ j ≤ L.length ∧ (∀ i, i < j → isE (L.getD i default) = true) ∧ get 0 t = v ∧ get 9 t = v ∧ get 10 t = .i .i64 (L.length : Int) ∧ get 11 t = .i .i64 (j : Int) ∧ Stay nowhere h g) L.length ?_ ?_
  · simp (disch := first | omega | (simp only [lnv]; omega)) only [wlk, ↓get_put', ↓reduceIte, seval]
    exact ⟨0, by omega, by omega, fun i hi => by omega, trivial, trivial, trivial, rfl, Stay.refl _ _⟩
  rintro I hI m t g ⟨j, rfl, hj, he, f0, f9, f10, f11, st⟩
  have hfg := st.fl hf
  have hLg := hL.grow st
  by_cases hjl : j < L.length
  case neg =>
    obtain rfl : j = L.length := by omega
    have hall : L.all isE = true := all_ok he
    have hne : L ≠ [] := by intro e; subst e; simp at h0
    repeat' (first
      | refine St.h ?_
      | simp (disch := first | omega | (simp only [lnv]; omega)) only [wlk, ↓get_put', ↓reduceIte, seval, f0, f9, f10, f11]
      | (with_reducible (first | apply cd_split | apply gd_split)) <;> (intro hc; (try simp only [hcn] at hc); (try simp only [hc]); (try simp only [hcl] at hc); try omega))
    refine CL.stay (sorted_ok hLg (by omega) hfg) fun g1 t1 => ?_
    have hfg1 := t1.fl hfg
    have hL1 := hLg.grow t1
    cases hs : sortedE L with
    | false =>
      repeat' (first
        | refine St.h ?_
        | simp (disch := first | omega | (simp only [lnv]; omega)) only [wlk, ↓get_put', ↓reduceIte, seval]
        | (with_reducible (first | apply cd_split | apply gd_split)) <;> (intro hc; (try simp only [hcn] at hc); (try simp only [hc]); (try simp only [hcl] at hc); try omega))
      subst hQ
      exact ⟨by rw [blkE_un hall hne hs], st.trans t1⟩
    | true =>
      repeat' (first
        | refine St.h ?_
        | simp (disch := first | omega | (simp only [lnv]; omega)) only [wlk, ↓get_put', ↓reduceIte, seval, f0]
        | (with_reducible (first | apply cd_split | apply gd_split)) <;> (intro hc; (try simp only [hcn] at hc); (try simp only [hc]); (try simp only [hcl] at hc); try omega))
      refine CL.stay (lay_ok hL1 hl hall hfg1) fun g2 t2 => ?_
      have hfg2 := t2.fl hfg1
      have hbl := bodyB_len (p := []) hall
      repeat' (first
        | refine St.h ?_
        | simp (disch := first | omega | (simp only [lnv]; omega)) only [wlk, ↓get_put', ↓reduceIte, seval]
        | (with_reducible (first | apply cd_split | apply gd_split)) <;> (intro hc; (try simp only [hcn] at hc); (try simp only [hc]); (try simp only [hcl] at hc); try omega))
      refine CL.stay (seal_ok (by omega) hfg2) fun g3 t3 => ?_
      repeat' (first
        | refine St.h ?_
        | simp (disch := first | omega | (simp only [lnv]; omega)) only [wlk, ↓get_put', ↓reduceIte, seval]
        | (with_reducible (first | apply cd_split | apply gd_split)) <;> (intro hc; (try simp only [hcn] at hc); (try simp only [hc]); (try simp only [hcl] at hc); try omega))
      subst hQ
      exact ⟨by rw [blkE_ok hall hne hs], ((st.trans t1).trans t2).trans t3⟩
  repeat' (first
    | refine St.h ?_
    | simp (disch := first | omega | (simp only [lnv]; omega)) only [wlk, ↓get_put', ↓reduceIte, seval, f0, f9, f10, f11, hLg.ix, hLg.la, Int.toNat_natCast]
    | (with_reducible (first | apply cd_split | apply gd_split)) <;> (intro hc; (try simp only [hcn] at hc); (try simp only [hc]); (try simp only [hcl] at hc); try omega))
  refine AL.own (by simp) hfg fun g1 t1 m1 o1 => ?_
  have hfg1 := t1.fl hfg
  repeat' (first
    | refine St.h ?_
    | simp (disch := first | omega | (simp only [lnv]; omega)) only [wlk, ↓get_put', ↓reduceIte, seval, f0, f9, f10, f11]
    | (with_reducible (first | apply cd_split | apply gd_split)) <;> (intro hc; (try simp only [hcn] at hc); (try simp only [hc]); (try simp only [hcl] at hc); try omega))
  refine ST.all o1 rfl rfl (by simp) (by simp) fun g2 o2 t2 => ?_
  have t12 : Stay nowhere g g2 := t1.past' t2 fun q hq => by rw [hq]; exact Nat.le_refl _
  have hfg2 := t12.fl hfg
  repeat' (first
    | refine St.h ?_
    | simp (disch := first | omega | (simp only [lnv]; omega)) only [wlk, ↓get_put', ↓reduceIte, seval, f0, f9, f10, f11, o2.row.ln]
    | (with_reducible (first | apply cd_split | apply gd_split)) <;> (intro hc; (try simp only [hcn] at hc); (try simp only [hc]); (try simp only [hcl] at hc); try omega))
  refine CL.stay (is_ok hfg2) fun g3 t3 => ?_
  have s3 := (st.trans t12).trans t3
  cases hi : isE (L.getD j default) with
  | false =>
    repeat' (first
      | refine St.h ?_
      | simp (disch := first | omega | (simp only [lnv]; omega)) only [wlk, ↓get_put', ↓reduceIte, seval]
      | (with_reducible (first | apply cd_split | apply gd_split)) <;> (intro hc; (try simp only [hcn] at hc); (try simp only [hc]); (try simp only [hcl] at hc); try omega))
    subst hQ
    exact ⟨by rw [blkE_bad (all_at (by omega) hi)], s3⟩
  | true =>
    repeat' (first
      | refine St.h ?_
      | simp (disch := first | omega | (simp only [lnv]; omega)) only [wlk, ↓get_put', ↓reduceIte, seval, f0, f9, f10, f11]
      | (with_reducible (first | apply cd_split | apply gd_split)) <;> (intro hc; (try simp only [hcn] at hc); (try simp only [hc]); (try simp only [hcl] at hc); try omega))
    refine lp_next hI (L.length - (j + 1)) (by omega) ⟨j + 1, rfl, by omega, fun i h2 => ?_, ?_, ?_, ?_, ?_, s3⟩
    · by_cases e : i = j
      · subst e; exact hi
      · exact he i (by omega)
    all_goals (simp (disch := first | omega | (simp only [lnv]; omega)) only [wlk, ↓get_put', ↓reduceIte, seval, f0, f9, f10]; try rfl)
section
variable {p : List UInt8} {e : Ent} (more : List UInt8)
end
end Go.Proofs.Ytiingkpdodbldaa

set_option maxRecDepth 1000000
set_option linter.all false
namespace Go.Proofs.Ytiingkpdodbldaa
open Go Go.Ev
noncomputable abbrev s77_0 : CC := (CC.cond (tm 10) CC.skip (CC.exit 0))
noncomputable abbrev s77_1 : CC := (CC.region [(wB 19 (doMove (tm 5))), (wB 20 (bin2 fMul (tm 19) (O.c (V.i IntKind.u32 (Int.ofNat 31))))), (wB 21 (doMove (tm 0))), (wB 22 (doMove (tm 6))), (wB 23 (doSIndex (tm 21) (tm 22))), (wB 24 (doConv IntKind.u32 (tm 23))), (wB 25 (bin2 fXor (tm 20) (tm 24))), (wB 5 (doMove (tm 25)))])
noncomputable abbrev s77_2 : CC := (CC.seq (CC.region [(wB 12 (doMove (tm 4))), (wB 13 (bin2 fMul (tm 12) (O.c (V.i IntKind.u32 (Int.ofNat 33))))), (wB 14 (doMove (tm 0))), (wB 15 (doMove (tm 6))), (wB 16 (doSIndex (tm 14) (tm 15))), (wB 17 (doConv IntKind.u32 (tm 16))), (wB 18 (bin2 fAdd (tm 13) (tm 17))), (wB 4 (doMove (tm 18)))]) s77_1)
noncomputable abbrev s77_3 : CC := (CC.seq (CC.region [(wB 11 (doMove (tm 9))), (wB 6 (doMove (tm 11)))]) s77_2)
noncomputable abbrev s77_4 : CC := (CC.block 1 s77_3)
noncomputable abbrev s77_5 : CC := (CC.region [(wB 26 (bin2 fAdd (tm 9) (oN 1))), (wB 9 (doMove (tm 26)))])
noncomputable abbrev s77_6 : CC := (CC.seq s77_4 s77_5)
noncomputable abbrev s77_7 : CC := (CC.seq s77_0 s77_6)
noncomputable abbrev l77_0 : CC := (CC.seq (CC.region [(wB 10 (bin2 fLss (tm 9) (tm 8)))]) s77_7)
noncomputable abbrev s77_8 : CC := (CC.loop l77_0)
noncomputable abbrev s77_9 : CC := (CC.block 0 s77_8)
noncomputable abbrev s77_10 : CC := (CC.seq (CC.region [(wB 7 (doMove (tm 0))), (wB 8 (doLenS (tm 7))), (wB 9 (doMove (oN 0)))]) s77_9)
noncomputable abbrev s77_11 : CC := (CC.seq (CC.region [(wB 27 (doMove (tm 4))), (wB 28 (doMove (tm 5))), (wB 29 (bin2 fOr (tm 28) (O.c (V.i IntKind.u32 (Int.ofNat 1))))), (wB 2 (doMove (tm 27))), (wB 3 (doMove (tm 29)))]) CC.ret)
noncomputable abbrev s77_12 : CC := (CC.seq s77_10 s77_11)
noncomputable abbrev s77_13 : CC := (CC.seq (CC.region [(wB 4 (doMove (O.c (V.i IntKind.u32 (Int.ofNat 5381))))), (wB 5 (doMove (O.c (V.i IntKind.u32 (Int.ofNat 52711)))))]) s77_12)
noncomputable abbrev b77 : CC := (CC.seq (CC.region [(wB 2 (doMove (O.c (V.i IntKind.u32 (Int.ofNat 0))))), (wB 3 (doMove (O.c (V.i IntKind.u32 (Int.ofNat 0)))))]) s77_13)
theorem c77 : compFn Try.prog 77 = ⟨30, b77, [(Rs.tmp (slOf 2)), (Rs.tmp (slOf 3))]⟩ := by kernel_rfl
noncomputable abbrev s28_0 : CC := (CC.cond (tm 15) CC.skip (CC.exit 0))
noncomputable abbrev s28_1 : CC := (CC.cond (tm 23) CC.skip (CC.exit 2))
noncomputable abbrev s28_2 : CC := (CC.region [(wB 25 (doMove (tm 3))), (wB 26 (doMove (tm 7))), (wB 27 (bin2 fQuo (tm 26) (O.c (V.i IntKind.u64 (Int.ofNat 8))))), (wB 28 (doIndexAddr 1 (tm 25) (tm 27))), (wB 29 (doLoad (tm 28))), (wB 30 (doMove (tm 7))), (wB 31 (doRem (tm 30) (O.c (V.i IntKind.u64 (Int.ofNat 8))))), (wB 32 (doShift shlF (O.c (V.i IntKind.u8 (Int.ofNat 1))) (tm 31))), (wB 33 (bin2 fOr (tm 29) (tm 32))), (wB 34 (doIndexAddr 1 (tm 25) (tm 27))), (CO.mk G.none D.none Bool.true (CR.mk (doStore 1 (tm 34) (tm 33))))])
noncomputable abbrev s28_3 : CC := (CC.seq (CC.region [(wB 24 (doAIndex 4 1 (tm 21) (tm 22))), (wB 7 (doMove (tm 24)))]) s28_2)
noncomputable abbrev s28_4 : CC := (CC.block 3 s28_3)
noncomputable abbrev s28_5 : CC := (CC.region [(wB 35 (bin2 fAdd (tm 22) (oN 1))), (wB 22 (doMove (tm 35)))])
noncomputable abbrev s28_6 : CC := (CC.seq s28_4 s28_5)
noncomputable abbrev s28_7 : CC := (CC.seq s28_1 s28_6)
noncomputable abbrev l28_0 : CC := (CC.seq (CC.region [(wB 23 (bin2 fLss (tm 22) (oN 4)))]) s28_7)
noncomputable abbrev s28_8 : CC := (CC.loop l28_0)
noncomputable abbrev s28_9 : CC := (CC.block 2 s28_8)
noncomputable abbrev s28_10 : CC := (CC.seq (CC.region [(wB 18 (doMove (tm 5))), (wB 19 (doMove (tm 3))), (wB 20 (doLen (tm 19))), (wB 21 (doCall 56 [(tm 18), (tm 20)])), (wB 22 (doMove (oN 0)))]) s28_9)
noncomputable abbrev s28_11 : CC := (CC.seq (CC.region [(wB 16 (doIndexAddr 1 (tm 12) (tm 14))), (wB 17 (doLoad (tm 16))), (wB 5 (doMove (tm 17)))]) s28_10)
noncomputable abbrev s28_12 : CC := (CC.block 1 s28_11)
noncomputable abbrev s28_13 : CC := (CC.region [(wB 36 (bin2 fAdd (tm 14) (oN 1))), (wB 14 (doMove (tm 36)))])
noncomputable abbrev s28_14 : CC := (CC.seq s28_12 s28_13)
noncomputable abbrev s28_15 : CC := (CC.seq s28_0 s28_14)
noncomputable abbrev l28_1 : CC := (CC.seq (CC.region [(wB 15 (bin2 fLss (tm 14) (tm 13)))]) s28_15)
noncomputable abbrev s28_16 : CC := (CC.loop l28_1)
noncomputable abbrev s28_17 : CC := (CC.block 0 s28_16)
noncomputable abbrev s28_18 : CC := (CC.seq (CC.region [(wB 12 (doMove (tm 0))), (wB 13 (doLen (tm 12))), (wB 14 (doMove (oN 0)))]) s28_17)
noncomputable abbrev s28_19 : CC := (CC.seq (CC.region [(wB 37 (doMove (tm 3))), (wB 38 (doB2S (tm 37))), (wB 2 (doMove (tm 38)))]) CC.ret)
noncomputable abbrev s28_20 : CC := (CC.seq s28_18 s28_19)
noncomputable abbrev s28_21 : CC := (CC.seq (CC.region [(wB 8 (doMove (tm 0))), (wB 9 (doLen (tm 8))), (wB 10 (doMax (tm 9) (oN 8))), (wB 11 (doMakeSlice 5 [(V.i IntKind.u8 (Int.ofNat 0))] (tm 10) (tm 10))), (wB 3 (doMove (tm 11)))]) s28_20)
noncomputable abbrev b28 : CC := (CC.seq (CC.region [(wB 2 (doMove (O.c (V.s 0 0))))]) s28_21)
theorem c28 : compFn Try.prog 28 = ⟨39, b28, [(Rs.tmp (slOf 2))]⟩ := by kernel_rfl
noncomputable abbrev s56_0 : CC := (CC.cond (tm 16) CC.skip (CC.exit 0))
noncomputable abbrev s56_1 : CC := (CC.region [(wB 26 (doMove (tm 8))), (wB 27 (doMove (tm 9))), (wB 28 (doMove (tm 1))), (wB 29 (doConv IntKind.u64 (tm 28))), (wB 30 (bin2 fMul (tm 29) (O.c (V.i IntKind.u64 (Int.ofNat 8))))), (wB 31 (doRem (tm 27) (tm 30))), (wB 32 (doIndexAddrArr 4 1 (tm 7) (tm 26))), (CO.mk G.none D.none Bool.true (CR.mk (doStore 1 (tm 32) (tm 31))))])
noncomputable abbrev s56_2 : CC := (CC.seq (CC.region [(wB 18 (doMove (tm 5))), (wB 19 (doConv IntKind.u64 (tm 18))), (wB 20 (doMove (tm 8))), (wB 21 (doConv IntKind.u64 (tm 20))), (wB 22 (doMove (tm 6))), (wB 23 (doConv IntKind.u64 (tm 22))), (wB 24 (bin2 fMul (tm 21) (tm 23))), (wB 25 (bin2 fAdd (tm 19) (tm 24))), (wB 9 (doMove (tm 25)))]) s56_1)
noncomputable abbrev s56_3 : CC := (CC.seq (CC.region [(wB 17 (doMove (tm 15))), (wB 8 (doMove (tm 17)))]) s56_2)
noncomputable abbrev s56_4 : CC := (CC.block 1 s56_3)
noncomputable abbrev s56_5 : CC := (CC.region [(wB 33 (bin2 fAdd (tm 15) (oN 1))), (wB 15 (doMove (tm 33)))])
noncomputable abbrev s56_6 : CC := (CC.seq s56_4 s56_5)
noncomputable abbrev s56_7 : CC := (CC.seq s56_0 s56_6)
noncomputable abbrev l56_0 : CC := (CC.seq (CC.region [(wB 16 (bin2 fLss (tm 15) (oN 4)))]) s56_7)
noncomputable abbrev s56_8 : CC := (CC.loop l56_0)
noncomputable abbrev s56_9 : CC := (CC.block 0 s56_8)
noncomputable abbrev s56_10 : CC := (CC.seq (CC.region [(wB 15 (doMove (oN 0)))]) s56_9)
noncomputable abbrev s56_11 : CC := (CC.seq (CC.region [(wB 34 (doLoadA 4 (tm 7))), (CO.mk G.none D.none Bool.true (CR.mk (doStore 4 (tm 4) (tm 34))))]) CC.ret)
noncomputable abbrev s56_12 : CC := (CC.seq s56_10 s56_11)
noncomputable abbrev s56_13 : CC := (CC.seq (CC.region [(wB 7 (doAlloc 88 [(V.i IntKind.u64 (Int.ofNat 0)), (V.i IntKind.u64 (Int.ofNat 0)), (V.i IntKind.u64 (Int.ofNat 0)), (V.i IntKind.u64 (Int.ofNat 0))]))]) s56_12)
noncomputable abbrev s56_14 : CC := (CC.seq (CC.region [(wB 11 (doMove (tm 0))), (wB 12 (doCall 77 [(tm 11)])), (wB 10 (doMove (tm 12))), (wB 13 (doExtract 0 (tm 10))), (wB 14 (doExtract 1 (tm 10))), (wB 5 (doMove (tm 13))), (wB 6 (doMove (tm 14)))]) s56_13)
noncomputable abbrev b56 : CC := (CC.seq (CC.region [(wB 4 (doAlloc 88 [(V.i IntKind.u64 (Int.ofNat 0)), (V.i IntKind.u64 (Int.ofNat 0)), (V.i IntKind.u64 (Int.ofNat 0)), (V.i IntKind.u64 (Int.ofNat 0))]))]) s56_14)
theorem c56 : compFn Try.prog 56 = ⟨35, b56, [(Rs.cellA (slOf 4) 4)]⟩ := by kernel_rfl
end Go.Proofs.Ytiingkpdodbldaa

set_option maxRecDepth 100000
set_option maxHeartbeats 8000000
set_option linter.all false
namespace Go.Proofs.Ytiingkpdodbldaa
open Go Go.Ev
theorem wrap_u32m {n : Int} (h : 0 ≤ n) : IntKind.u32.wrap n = n % 4294967296 := by
  simp only [IntKind.wrap, IntKind.bits, IntKind.signed]; simp
theorem repL_bv (n : Nat) : repL [V.i .u8 0] n = (List.replicate n (0 : UInt8)).map bv := by
  induction n with
  | zero => rfl
  | succ n ih =>
    have e : repL [V.i .u8 0] (n + 1) = V.i .u8 0 :: repL [V.i .u8 0] n := rfl
    rw [e, ih, List.replicate_succ, List.map_cons]; rfl
theorem bv_at {s : List UInt8} {j : Nat} (hj : j < s.length) : (s.map bv).getD j .u = .i .u8 ((s.getD j 0).toNat : Int) := by
  simp [List.getD, hj]; rfl
theorem wrap_u64s {n : Int} (h : 0 ≤ n) (h2 : n ≤ 1152921504606846976) : IntKind.u64.wrap n = n := wrap_u64 h (by omega)
theorem pow_byte {k : Nat} : IntKind.u8.wrap (1 * ((2 ^ ((k : Int) % 8).toNat : Nat) : Int)) = ((2 ^ (k % 8) : Nat) : Int) := by
  have e : ((k : Int) % 8).toNat = k % 8 := by omega
  rw [e]
  have h1 : 2 ^ (k % 8) < 2 ^ 8 := Nat.pow_lt_pow_right (by omega) (by omega)
  generalize 2 ^ (k % 8) = z at *
  rw [Int.one_mul, wrap_u8 (by omega) (by omega)]
end Go.Proofs.Ytiingkpdodbldaa

set_option maxRecDepth 100000
set_option maxHeartbeats 8000000
set_option linter.all false
namespace Go.Proofs.Ytiingkpdodbldaa
open Go Go.Ev
theorem hash_ok {h : H} {l : List UInt8} (hl : l.length ≤ 1000000) : FnOk Try.prog 77 [sv l] h fun y h' => y = .tu [.i .u32 ((hashB l).1 : Int), .i .u32 ((hashB l).2 : Int)] ∧ h' = h := by
  refine fn_go c77 (by intro hb; cases hb) (by simp) (by simp) fun Q hQ => ?_
  simp only [slotsF, Nat.reduceAdd]
  repeat' (first
    | refine St.h ?_
    | simp (disch := first | omega | (simp only [lnv]; omega)) only [wlk, ↓get_put', ↓reduceIte, seval]
    | (with_reducible (first | apply cd_split | apply gd_split)) <;> (intro hc; (try simp only [hcn] at hc); (try simp only [hc]); (try simp only [hcl] at hc); try omega))
  refine Ok.lp (fun m t g => ∃ i : Nat, i ≤ l.length ∧ m = l.length - i ∧ h = g ∧ get 0 t = sv l ∧ get 4 t = .i .u32 ((hashU (l.take i)).1 : Int) ∧ get 5 t = .i .u32 ((hashU (l.take i)).2 : Int) ∧ get 8 t = .i .i64 (l.length : Int) ∧ get 9 t = .i .i64 (i : Int)) l.length ?_ ?_
  · simp (disch := first | omega | (simp only [lnv]; omega)) only [wlk, ↓get_put', ↓reduceIte, seval]
    exact ⟨0, by omega, by omega, trivial, trivial, rfl, rfl, trivial, rfl⟩
  rintro I hI m t g ⟨i, hi, rfl, rfl, f0, f4, f5, f8, f9⟩
  have hci := (l.getD i 0).toNat_lt
  have ⟨b1, b2⟩ := hashU_lt (l.take i)
  repeat' (first
    | refine St.h ?_
    | simp (disch := first | omega | (simp only [lnv]; omega)) only [wlk, ↓get_put', ↓reduceIte, seval, f0, f4, f5, f8, f9, wrap_u32m, Int.toNat_natCast]
    | (with_reducible (first | apply cd_split | apply gd_split)) <;> (intro hc; (try simp only [hcn] at hc); (try simp only [hc]); (try simp only [hcl] at hc); try omega))
  · have e := hashU_take (l := l) (i := i) (by omega)
    refine lp_next hI (l.length - (i + 1)) (by omega) ⟨i + 1, by omega, rfl, rfl, ?_, ?_, ?_, ?_, ?_⟩
    · simp (disch := first | omega | (simp only [lnv]; omega)) only [wlk, ↓get_put', ↓reduceIte, seval, f0]
    · simp (disch := first | omega | (simp only [lnv]; omega)) only [wlk, ↓get_put', ↓reduceIte, seval, e, hashStep]
      congr 1; omega
    · simp (disch := first | omega | (simp only [lnv]; omega)) only [wlk, ↓get_put', ↓reduceIte, seval, e, hashStep]
      congr 2
    · simp (disch := first | omega | (simp only [lnv]; omega)) only [wlk, ↓get_put', ↓reduceIte, seval, f8]
    · simp (disch := first | omega | (simp only [lnv]; omega)) only [wlk, ↓get_put', ↓reduceIte, seval]; rfl
  · obtain rfl : i = l.length := by omega
    rw [List.take_length] at *
    subst hQ
    exact ⟨rfl, rfl⟩
theorem sv_lt {h : H} {id : B} {xs : List V} (o : Ev.Own h id xs) : B.val id < B.val h.next := by obtain ⟨_, _, _, _, _, _, h6, _⟩ := o; exact h6
theorem sv_ne {a b : B} (h : B.val a < B.val b) : a ≠ b := fun e => by rw [e] at h; exact absurd h (Nat.lt_irrefl _)
/-- the four bits' places, as many as are told -/
def fillV (key : List UInt8) (n q : Nat) : List V := [.i .u64 ((if 0 < q then spot key n 0 else 0 : Nat) : Int), .i .u64 ((if 1 < q then spot key n 1 else 0 : Nat) : Int), .i .u64 ((if 2 < q then spot key n 2 else 0 : Nat) : Int), .i .u64 ((if 3 < q then spot key n 3 else 0 : Nat) : Int)]
theorem fillV_set {key : List UInt8} {n q : Nat} (hq : q < 4) : (fillV key n q).set q (.i .u64 (spot key n q : Int)) = fillV key n (q + 1) := by
  match q, hq with
  | 0, _ => rfl
  | 1, _ => rfl
  | 2, _ => rfl
  | 3, _ => rfl
def spotsV (key : List UInt8) (n : Nat) : List V := [.i .u64 (spot key n 0 : Int), .i .u64 (spot key n 1 : Int), .i .u64 (spot key n 2 : Int), .i .u64 (spot key n 3 : Int)]
theorem spotsV_len {key : List UInt8} {n : Nat} : (spotsV key n).length = 4 := rfl
theorem spotsV_at {key : List UInt8} {n q : Nat} (hq : q < 4) : (spotsV key n).getD q .u = .i .u64 (spot key n q : Int) := by
  match q, hq with
  | 0, _ => rfl
  | 1, _ => rfl
  | 2, _ => rfl
  | 3, _ => rfl
theorem bitsOf_ok {h : H} {key : List UInt8} {n : Nat} (hk : key.length ≤ 1000000) (hn : 1 ≤ n) (hn2 : n ≤ 1000000) (hf : B.val h.floor ≤ B.val h.next) : FnOk Try.prog 56 [sv key, .i .i64 (n : Int)] h fun y h' => y = .a (spotsV key n) ∧ Stay nowhere h h' := by
  refine fn_go c56 (by intro hb; cases hb) (by simp) (by simp) fun Q hQ => ?_
  simp only [slotsF, Nat.reduceAdd]
  repeat' (first
    | refine St.h ?_
    | simp (disch := first | omega | (simp only [lnv]; omega)) only [wlk, ↓get_put', ↓reduceIte, seval]
    | (with_reducible (first | apply cd_split | apply gd_split)) <;> (intro hc; (try simp only [hcn] at hc); (try simp only [hc]); (try simp only [hcl] at hc); try omega))
  refine AL.own (by simp) hf fun h1 s1 n1 o1 => ?_
  have hf1 := s1.fl hf
  repeat' (first
    | refine St.h ?_
    | simp (disch := first | omega | (simp only [lnv]; omega)) only [wlk, ↓get_put', ↓reduceIte, seval]
    | (with_reducible (first | apply cd_split | apply gd_split)) <;> (intro hc; (try simp only [hcn] at hc); (try simp only [hc]); (try simp only [hcl] at hc); try omega))
  refine CL.pure (hash_ok hk) ?_
  have ⟨a1, a2⟩ := hashB_lt key
  have hsp : ∀ q : Nat, spot key n q = ((hashB key).1 + q * (hashB key).2) % (8 * n) := fun q => rfl
  generalize hab : hashB key = ab at *
  obtain ⟨a, b⟩ := ab
  repeat' (first
    | refine St.h ?_
    | simp (disch := first | omega | (simp only [lnv]; omega)) only [wlk, ↓get_put', ↓reduceIte, seval]
    | (with_reducible (first | apply cd_split | apply gd_split)) <;> (intro hc; (try simp only [hcn] at hc); (try simp only [hc]); (try simp only [hcl] at hc); try omega))
  refine AL.own (by simp) hf1 fun h2 s2 n2 o2 => ?_
  have hf2 := s2.fl hf1
  have hb := sv_lt o1
  have o1 := o1.stay s2 fun h => h
  repeat' (first
    | refine St.h ?_
    | simp (disch := first | omega | (simp only [lnv]; omega)) only [wlk, ↓get_put', ↓reduceIte, seval]
    | (with_reducible (first | apply cd_split | apply gd_split)) <;> (intro hc; (try simp only [hcn] at hc); (try simp only [hc]); (try simp only [hcl] at hc); try omega))
  refine Ok.lp (fun m t g => ∃ q : Nat, q ≤ 4 ∧ m = 4 - q ∧ get 1 t = .i .i64 (n : Int) ∧ get 4 t = .p h.next 0 0 4 ∧ get 5 t = .i .u32 (a : Int) ∧ get 6 t = .i .u32 (b : Int) ∧ get 7 t = .p h1.next 0 0 4 ∧ get 15 t = .i .i64 (q : Int) ∧ Ev.Own g h1.next (fillV key n q) ∧ Ev.Own g h.next [.i .u64 0, .i .u64 0, .i .u64 0, .i .u64 0] ∧ Stay nowhere h g) 4 ?_ ?_
  · simp (disch := first | omega | (simp only [lnv]; omega)) only [wlk, ↓get_put', ↓reduceIte, seval]
    refine ⟨0, by omega, by omega, ?_, ?_, ?_, ?_, ?_, ?_, o2, o1, s1.trans s2⟩ <;> first | trivial | rfl
  rintro J hJ m t g ⟨q, hq, rfl, e1, e4, e5, e6, e7, e15, og, og1, st⟩
  have hqb : (q : Int) * (b : Int) = ((q * b : Nat) : Int) := by simp
  have hqb2 : q * b ≤ 4 * 4294967296 := Nat.mul_le_mul hq (by omega)
  have hk : ((a : Int) + ((q * b : Nat) : Int)) % ((n : Int) * 8) = ((spot key n q : Nat) : Int) := by rw [hsp, Int.mul_comm]; simp
  have hkl : spot key n q < 8 * n := by rw [hsp]; exact Nat.mod_lt _ (by omega)
  repeat' (first
    | refine St.h ?_
    | simp (disch := first | omega | (simp only [lnv]; omega)) only [wlk, ↓get_put', ↓reduceIte, seval, e1, e4, e5, e6, e7, e15, wrap_u64s, hqb, hk, Int.toNat_natCast]
    | (with_reducible (first | apply cd_split | apply gd_split)) <;> (intro hc; (try simp only [hcn] at hc); (try simp only [hc]); (try simp only [hcl] at hc); try omega))
  · refine ST.own (y := .i .u64 (spot key n q : Int)) og rfl rfl (by omega) (by omega) fun g3 o3 s3 => ?_
    rw [fillV_set (by omega)] at o3
    have og1 := og1.stay s3 (sv_ne hb)
    repeat' (first
      | refine St.h ?_
      | simp (disch := first | omega | (simp only [lnv]; omega)) only [wlk, ↓get_put', ↓reduceIte, seval, e1, e4, e5, e6, e7, e15]
      | (with_reducible (first | apply cd_split | apply gd_split)) <;> (intro hc; (try simp only [hcn] at hc); (try simp only [hc]); (try simp only [hcl] at hc); try omega))
    refine lp_next hJ (4 - (q + 1)) (by omega) ⟨q + 1, by omega, rfl, ?_, ?_, ?_, ?_, ?_, ?_, o3, og1, st.past' s3 fun i hi => by rw [hi]; have := s1.next; omega⟩
    all_goals first | (simp (disch := first | omega | (simp only [lnv]; omega)) only [wlk, ↓get_put', ↓reduceIte, seval, e1, e4, e5, e6, e7]; done) | (simp (disch := first | omega | (simp only [lnv]; omega)) only [wlk, ↓get_put', ↓reduceIte, seval]; rfl)
  · obtain rfl : q = 4 := by omega
    have e44 : ((fillV key n 4).drop 0).take 4 = fillV key n 4 := rfl
    have hfl : (fillV key n 4).length = 4 := rfl
    repeat' (first
      | refine St.h ?_
      | simp (disch := first | omega | (simp only [lnv]; omega)) only [wlk, ↓get_put', ↓reduceIte, seval, e4, e7, og.row.ln, e44]
      | (with_reducible (first | apply cd_split | apply gd_split)) <;> (intro hc; (try simp only [hcn] at hc); (try simp only [hc]); (try simp only [hcl] at hc); try omega))
    refine ST.all (vs := fillV key n 4) (fin := 4) og1 rfl rfl (by simp [fillV]) (by simp [fillV]) fun hz oz sz => ?_
    repeat' (first
      | refine St.h ?_
      | simp (disch := first | omega | (simp only [lnv]; omega)) only [wlk, ↓get_put', ↓reduceIte, seval, oz.ra4, e4]
      | (with_reducible (first | apply cd_split | apply gd_split)) <;> (intro hc; (try simp only [hcn] at hc); (try simp only [hc]); (try simp only [hcl] at hc); try omega))
    subst hQ
    exact ⟨rfl, st.past' sz fun i hi => by rw [hi]; exact Nat.le_refl _⟩
theorem make_ok {h : H} {v : V} {L : List (List UInt8)} (hL : Tl h v L) (hl : L.length ≤ 1000) (hs : ∀ k ∈ L, k.length ≤ 1000000) (hf : B.val h.floor ≤ B.val h.next) : FnOk Try.prog 28 [v] h fun y h' => y = sv (sieveB L) ∧ Stay nowhere h h' := by
  refine fn_go c28 (by intro hb; cases hb) (by simp) (by simp) fun Q hQ => ?_
  simp only [slotsF, Nat.reduceAdd]
  have hn : (max (L.length : Int) 8).toNat = max 8 L.length := by omega
  have hsl : (sieveB L).length = max 8 L.length := sieveB_len L
  generalize hnn : max 8 L.length = n at *
  have hn8 : 8 ≤ n := by omega
  have hn1 : n ≤ 1000 := by omega
  repeat' (first
    | refine St.h ?_
    | simp (disch := first | omega | (simp only [lnv]; omega)) only [wlk, ↓get_put', ↓reduceIte, seval, hL.ln, hn]
    | (with_reducible (first | apply cd_split | apply gd_split)) <;> (intro hc; (try simp only [hcn] at hc); (try simp only [hc]); (try simp only [hcl] at hc); try omega))
  refine AL.own (by rw [repL_bv]; simp; omega) hf fun h1 s1 n1 o1 => ?_
  rw [repL_bv] at o1
  have hf1 := s1.fl hf
  have hz : (List.replicate n (0 : UInt8)).length = n := by simp
  have hsv : putKeys (List.replicate n 0) L = sieveB L := by unfold sieveB; rw [hnn]
  generalize List.replicate n (0 : UInt8) = Z at *
  repeat' (first
    | refine St.h ?_
    | simp (disch := first | omega | (simp only [lnv]; omega)) only [wlk, ↓get_put', ↓reduceIte, seval, hL.ln, hn]
    | (with_reducible (first | apply cd_split | apply gd_split)) <;> (intro hc; (try simp only [hcn] at hc); (try simp only [hc]); (try simp only [hcl] at hc); try omega))
  refine Ok.lp (fun m t g => ∃ i : Nat, i ≤ L.length ∧ m = L.length - i ∧ get 12 t = v ∧ get 13 t = .i .i64 (L.length : Int) ∧ get 3 t = .l h.next 0 0 n n (some n) ∧ get 14 t = .i .i64 (i : Int) ∧ Ev.Own g h.next ((putKeys Z (L.take i)).map bv) ∧ Stay nowhere h g) L.length ?_ ?_
  · simp (disch := first | omega | (simp only [lnv]; omega)) only [wlk, ↓get_put', ↓reduceIte, seval, hn]
    refine ⟨0, by omega, by omega, ?_, ?_, ?_, ?_, o1, s1⟩ <;> first | trivial | rfl
  rintro I hI m t g ⟨i, hi, rfl, f0, f1, f3, f4, og, st⟩
  have hfg := st.fl hf
  have hLg := hL.grow st
  generalize hS : putKeys Z (L.take i) = S at *
  have hSl : S.length = n := by rw [← hS, putKeys_len, hz]
  repeat' (first
    | refine St.h ?_
    | simp (disch := first | omega | (simp only [lnv]; omega)) only [wlk, ↓get_put', ↓reduceIte, seval, f0, f1, f3, f4, hL.ln, hL.ix, hLg.ld, Int.toNat_natCast]
    | (with_reducible (first | apply cd_split | apply gd_split)) <;> (intro hc; (try simp only [hcn] at hc); (try simp only [hc]); (try simp only [hcl] at hc); try omega))
  · have hki : (L.getD i []).length ≤ 1000000 := hs _ (by rw [show L.getD i [] = L[i] by simp [List.getD, show i < L.length by omega]]; simp)
    generalize hkk : L.getD i [] = key at *
    refine CL.stay (bitsOf_ok hki (by omega) (by omega) hfg) fun g1 t1 => ?_
    have og := og.stay t1 fun h => h
    have st := st.trans t1
    repeat' (first
      | refine St.h ?_
      | simp (disch := first | omega | (simp only [lnv]; omega)) only [wlk, ↓get_put', ↓reduceIte, seval]
      | (with_reducible (first | apply cd_split | apply gd_split)) <;> (intro hc; (try simp only [hcn] at hc); (try simp only [hc]); (try simp only [hcl] at hc); try omega))
    refine Ok.lp (fun m t g => ∃ q : Nat, q ≤ 4 ∧ m = 4 - q ∧ get 12 t = v ∧ get 13 t = .i .i64 (L.length : Int) ∧ get 3 t = .l h.next 0 0 n n (some n) ∧ get 14 t = .i .i64 (i : Int) ∧ get 21 t = .a (spotsV key n) ∧ get 22 t = .i .i64 (q : Int) ∧ Ev.Own g h.next ((putKey S key q).map bv) ∧ Stay nowhere h g) 4 ?_ ?_
    · simp (disch := first | omega | (simp only [lnv]; omega)) only [wlk, ↓get_put', ↓reduceIte, seval, f0, f1, f3, f4]
      refine ⟨0, by omega, by omega, ?_, ?_, ?_, ?_, ?_, ?_, og, st⟩ <;> first | trivial | rfl
    rintro J hJ m t2 g2 ⟨q, hq, rfl, e0, e1, e3, e4, e5, e7, o2, st2⟩
    have hsa := fun hq => spotsV_at (key := key) (n := n) (q := q) hq
    have hsn : (spotsV key n).length = 4 := rfl
    have hK : (putKey S key q).length = n := by rw [putKey_len, hSl]
    have hkl : spot key n q < 8 * n := Nat.mod_lt _ (by omega)
    have hpk := putKey_succ S key q
    rw [hSl] at hpk
    generalize spot key n q = k at *
    have hk8 : ((k : Int) / 8).toNat = k / 8 := by omega
    generalize hT : putKey S key q = T at *
    have hba := bv_at (s := T) (j := k / 8) (by omega)
    have hbt := (T.getD (k / 8) 0).toNat_lt
    have h2k : 2 ^ (k % 8) < 256 := Nat.pow_lt_pow_right (a := 2) (n := 8) (by omega) (by omega)
    have hpb := pow_byte (k := k)
    have hor := byte_or (x := (T.getD (k / 8) 0).toNat) (i := k % 8) (by omega) (by omega)
    have hpt : putBit T k = T.set (k / 8) (UInt8.ofNat ((T.getD (k / 8) 0).toNat ||| 2 ^ (k % 8))) := rfl
    generalize 2 ^ (k % 8) = w at *
    repeat' (first
      | refine St.h ?_
      | simp (disch := first | omega | (simp only [lnv]; omega)) only [wlk, ↓get_put', ↓reduceIte, seval, e0, e1, e3, e4, e5, e7, hsa, spotsV_len, hk8, o2.row.l1, hba, hpb, Int.toNat_natCast, List.length_map]
      | (with_reducible (first | apply cd_split | apply gd_split)) <;> (intro hc; (try simp only [hcn] at hc); (try simp only [hc]); (try simp only [hcl] at hc); try omega))
    · refine ST.own (y := bv (UInt8.ofNat ((T.getD (k / 8) 0).toNat ||| w))) o2 ?_ rfl (by omega) (by omega) fun g3 o3 s3 => ?_
      · rw [← bv_ofNat, Nat.mod_eq_of_lt hor]; rfl
      repeat' (first
        | refine St.h ?_
        | simp (disch := first | omega | (simp only [lnv]; omega)) only [wlk, ↓get_put', ↓reduceIte, seval, e0, e1, e3, e4, e5, e7]
        | (with_reducible (first | apply cd_split | apply gd_split)) <;> (intro hc; (try simp only [hcn] at hc); (try simp only [hc]); (try simp only [hcl] at hc); try omega))
      refine lp_next hJ (4 - (q + 1)) (by omega) ⟨q + 1, by omega, rfl, ?_, ?_, ?_, ?_, ?_, ?_, ?_, st2.past' s3 fun i hi => by rw [hi]; exact Nat.le_refl _⟩
      all_goals first | (simp (disch := first | omega | (simp only [lnv]; omega)) only [wlk, ↓get_put', ↓reduceIte, seval, e0, e1, e3, e4, e5, e7]; done) | (simp (disch := first | omega | (simp only [lnv]; omega)) only [wlk, ↓get_put', ↓reduceIte, seval]; rfl) | skip
      rw [hpk, hpt, List.map_set]; exact o3
    · obtain rfl : q = 4 := by omega
      have hnx : putKeys Z (L.take (i + 1)) = T := by
        have : L.take (i + 1) = L.take i ++ [key] := by rw [List.take_succ_eq_append_getElem (by omega), ← hkk]; simp [List.getD, show i < L.length by omega]
        rw [this, putKeys_snoc, hS, hT]
      repeat' (first
        | refine St.h ?_
        | simp (disch := first | omega | (simp only [lnv]; omega)) only [wlk, ↓get_put', ↓reduceIte, seval, e0, e1, e3, e4]
        | (with_reducible (first | apply cd_split | apply gd_split)) <;> (intro hc; (try simp only [hcn] at hc); (try simp only [hc]); (try simp only [hcl] at hc); try omega))
      refine lp_next hI (L.length - (i + 1)) (by omega) ⟨i + 1, by omega, rfl, ?_, ?_, ?_, ?_, by rw [hnx]; exact o2, st2⟩
      · simp (disch := first | omega | (simp only [lnv]; omega)) only [wlk, ↓get_put', ↓reduceIte, seval, e0]
      · simp (disch := first | omega | (simp only [lnv]; omega)) only [wlk, ↓get_put', ↓reduceIte, seval, e1]
      · simp (disch := first | omega | (simp only [lnv]; omega)) only [wlk, ↓get_put', ↓reduceIte, seval, e3]
      · simp (disch := first | omega | (simp only [lnv]; omega)) only [wlk, ↓get_put', ↓reduceIte, seval]; rfl
  · obtain rfl : i = L.length := by omega
    rw [List.take_length, hsv] at hS
    have hL2 := og.lst (some n)
    rw [List.length_map, hSl] at hL2
    repeat' (first
      | refine St.h ?_
      | simp (disch := first | omega | (simp only [lnv]; omega)) only [wlk, ↓get_put', ↓reduceIte, seval, f0, f1, f3, f4, hL2.bs (by intro e; rw [e] at hSl; simp at hSl; omega)]
      | (with_reducible (first | apply cd_split | apply gd_split)) <;> (intro hc; (try simp only [hcn] at hc); (try simp only [hc]); (try simp only [hcl] at hc); try omega))
    subst hQ
    exact ⟨by rw [hS], st⟩
end Go.Proofs.Ytiingkpdodbldaa

set_option linter.all false
namespace Go.Ev
open Go
theorem CPS.own {P : Program} {h : H} {N : Nx} {id : B} {el fin : Nat} {xs : List V} {s : List UInt8} {cap : Option Nat} (o : OwnE h id el xs) (hne : 1 ≤ s.length) (hj : s.length ≤ fin) (hfit : s.length < 2 ^ 37)
    (k : ∀ h', OwnE h' id el (s.map bv) → Stay (fun i => i = id) h h' → N.go P (.i .i64 (s.length : Int)) h') : CPS P (.l id 0 0 s.length fin cap) (sv s) h N := by
  obtain ⟨blk, a1, a2, a3, a4, aE, a5, a6, a7⟩ := o
  obtain ⟨next, floor, heap⟩ := h
  obtain ⟨cur, min, sz, cs, bel, fr⟩ := blk
  simp only at a2 a3 a4 aE a7
  subst a2; subst a3; subst a4; subst aE
  have hvl : (s.map bv).length = s.length := List.length_map _
  obtain ⟨tr, t1, t2, t3⟩ := setList_fine (s.map bv) 0 cs (by omega)
  obtain ⟨hp, s1, s2, s3⟩ := setK_ok id (⟨0, 0, sz, tr, bel, 0⟩ : Blk) heap
  have e1 : B.geB floor id = true := by cases floor <;> first | rfl | (show Nat.ble _ _ = true; rw [Nat.ble_eq]; exact a5)
  have e2 : Nat.ble (Nat.add 0 (s.map bv).length) fin = true := by rw [Nat.ble_eq]; show 0 + (s.map bv).length ≤ fin; omega
  have e4 : frOk 0 0 = true := rfl
  have e5 : Nat.beq 0 0 = true := rfl
  have e6 : Nat.ble 0 0 = true := rfl
  have a1' : heap.get id = some ⟨0, 0, sz, cs, bel, 0⟩ := a1
  refine hm_of (v := .i .i64 (s.length : Int)) (h' := ⟨next, floor, hp⟩) (fun q => ?_) (k _ ⟨_, s2, rfl, rfl, rfl, rfl, a5, a6, fun i z hz => by have := t2 i z hz; rwa [Nat.zero_add] at this⟩ ⟨rfl, Nat.le_refl _, fun i _ hi => s3 i hi⟩)
  show natC s.length (fun _ => false) (fun _ => copyToS (sv s) ⟨next, floor, heap⟩ q id 0 0 s.length fin) = _
  obtain ⟨m, hm⟩ : ∃ m, s.length = m + 1 := ⟨s.length - 1, by omega⟩
  have hc : ∀ (z : Unit → Bool) (f : Nat → Bool), natC s.length z f = f (m + 1) := fun z f => by rw [hm]; rfl
  rw [hc]
  unfold copyToS
  show unpK s.length (pk s) [] (fun vs => ifK (Nat.beq s.length s.length) fun _ => store ⟨next, floor, heap⟩ id 0 0 fin vs fun h => q (.i .i64 (.ofNat s.length)) h) = _
  rw [unpK_map _ _ _ _ rfl, List.append_nil, Nat.beq_refl, ifK_true]
  simp only [store, hK_mk, a1', optK_some, blkK_mk, e5, e6, e1, e2, allOne_bv, e4, ifK_true]
  rw [t1, s1]; rfl
theorem US.own {P : Program} {h : H} {N : Nx} {id : B} {el fin : Nat} {a : List UInt8} (o : OwnE h id el (a.map bv)) (hne : 1 ≤ a.length) (hj : a.length ≤ fin) (hl : a.length ≤ 1048576)
    (k : ∀ h', Stay (fun i => i = id) h h' → N.go P (sv a) h') : US P el (.p id 0 0 fin) (.i .i64 (a.length : Int)) h N := by
  have hrow : Row h id 0 0 (a.map bv) := o.own.row
  obtain ⟨blk, a1, a2, a3, a4, aE, a5, a6, a7⟩ := o
  have hld : ∀ k, loadN h id 0 0 fin a.length k = k (a.map bv) := fun k => by
    have := loadN_row (n := (a.map bv).length) (fin := fin) hrow rfl (by intro h0; have := congrArg List.length h0; simp at this; subst this; simp at hne) (by rw [List.length_map]; omega) k
    rwa [List.length_map] at this
  obtain ⟨next, floor, heap⟩ := h
  obtain ⟨cur, min, sz, cells, bel, fr⟩ := blk
  simp only at a2 a3 a4 aE a7
  subst a2; subst a3; subst a4; subst aE
  obtain ⟨hp, s1, s2, s3⟩ := setK_ok id (⟨0, 0, sz, cells, bel, a.length + 2⟩ : Blk) heap
  have a1' : heap.get id = some ⟨0, 0, sz, cells, bel, 0⟩ := a1
  have g2 : Nat.beq bel bel = true := Nat.beq_refl bel
  have g3 : B.geB floor id = true := by cases floor <;> first | rfl | (show Nat.ble _ _ = true; rw [Nat.ble_eq]; exact a5)
  have g4 : Nat.ble 1 a.length = true := by rw [Nat.ble_eq]; exact hne
  have g5 : Nat.ble a.length 1048576 = true := by rw [Nat.ble_eq]; exact hl
  have g6 : Nat.beq 0 0 = true := rfl
  have g7 : Nat.ble 0 0 = true := rfl
  refine US.of (v := sv a) (h' := ⟨next, floor, hp⟩) (fun q => ?_) (k _ ⟨rfl, Nat.le_refl _, fun i _ hi => s3 i hi⟩)
  simp only [vI_i, kdEq_self, ifK_true, natK_cast, vPZ_p]
  unfold uStrK
  rw [g6, ifK_true, g4, ifK_true, g5, ifK_true]
  simp only [elK, hK_mk, a1', optK_some, blkK_mk, g7, g2, ifK_true]
  rw [hld, pack_bv]
  have e0 : 0 * 256 ^ a.length + pk a = pk a := by rw [Nat.zero_mul, Nat.zero_add]
  rw [e0]
  simp only [freezeK, hK_mk, a1', optK_some, blkK_mk, g3, ifK_true]
  show fN (Nat.add a.length 2) (fun fr' => T.setK id ⟨0, 0, sz, cells, bel, fr'⟩ heap fun heap => q (.s a.length (pk a)) ⟨next, floor, heap⟩) = _
  rw [fN_eq]
  exact s1 _
theorem Own.ra3 {h : H} {Q : V → H → Prop} {id : B} {a b c : V} {us : List V} (o : Own h id [a, b, c]) : RA Q 3 (.p id 0 0 3) us h = Q (one (.a [a, b, c] :: us)) h := o.ra rfl (by omega) (by omega)
end Go.Ev

set_option maxRecDepth 100000
set_option maxHeartbeats 8000000
set_option linter.all false
namespace Go.Proofs.Ytiingkpdodbldaa
open Go Go.Ev
theorem isKey_ok {h : H} {s : List UInt8} (hs : s.length ≤ 1000000) : FnOk Try.prog 83 [sv s] h fun y h' => y = .b (decide (1 ≤ s.length ∧ s.length ≤ 13)) ∧ h' = h := by
  refine fn_go c83 (by intro hb; cases hb) (by simp) (by simp) fun Q hQ => ?_
  simp only [slotsF, Nat.reduceAdd]
  repeat' (first
    | refine St.h ?_
    | simp (disch := first | omega | (simp only [lnv]; omega)) only [wlk, ↓get_put', ↓reduceIte, seval]
    | (with_reducible (first | apply cd_split | apply gd_split)) <;> (intro hc; (try simp only [hcn] at hc); (try simp only [hc]); (try simp only [hcl] at hc); try omega))
  all_goals
    subst hQ
    refine ⟨?_, rfl⟩
    congr 1
    try (first
      | (symm; rw [decide_eq_true_eq]; omega)
      | (symm; rw [decide_eq_false_iff_not]; omega)
      | (apply decide_eq_decide.2; omega))
section
variable {h : H} {lo : Nat} {id : B} {U : B → Prop} {a : List UInt8}
theorem blen_ok (s : Sb h lo 58 5 id U a) : FnOk Try.prog 25 [.p id 0 0 2] h fun y h' => y = .i .i64 (a.length : Int) ∧ h' = h := by
  refine fn_go c25 (by intro hb; cases hb) (by simp) (by simp) fun Q hQ => ?_
  simp only [slotsF, Nat.reduceAdd]
  obtain ⟨⟨adr, w, o, ha, b, hw, hn⟩, hself, hlo⟩ := s
  have or := o.own.row
  have hln := fun g N => b.lst.ln (P := Try.prog) (h := g) (N := N)
  rw [List.length_map] at hln
  repeat' (first
    | refine St.h ?_
    | simp (disch := first | omega | (simp only [lnv]; omega)) only [wlk, ↓get_put', ↓reduceIte, seval, or.l1, hln]
    | (with_reducible (first | apply cd_split | apply gd_split)) <;> (intro hc; (try simp only [hcn] at hc); (try simp only [hc]); (try simp only [hcl] at hc); try omega))
  subst hQ
  exact ⟨rfl, rfl⟩
theorem bwrite_ok {v : V} {c : List UInt8} {id2 : B} (s : Sb h lo 58 5 id U a) (hv : v = .l id2 0 0 c.length c.length (some c.length)) (o2 : Ev.Own h id2 (c.map bv)) (hu : ¬ U id2) (hc : 1 ≤ c.length) (hl : a.length + c.length ≤ 1048576) (hf : B.val h.floor ≤ B.val h.next) : FnOk Try.prog 30 [.p id 0 0 2, v] h fun y h' => ∃ U', Sb h' lo 58 5 id U' (a ++ c) ∧ Stay U h h' ∧ ∀ i, U' i → U i ∨ B.val h.next ≤ B.val i := by
  refine fn_go c30 (by intro hb; cases hb) (by simp) (by simp) fun Q hQ => ?_
  simp only [slotsF, Nat.reduceAdd]
  repeat' (first
    | refine St.h ?_
    | simp (disch := first | omega | (simp only [lnv]; omega)) only [wlk, ↓get_put', ↓reduceIte, seval]
    | (with_reducible (first | apply cd_split | apply gd_split)) <;> (intro hc; (try simp only [hcn] at hc); (try simp only [hc]); (try simp only [hcl] at hc); try omega))
  refine CL.mk (copyCheck_ok s) ?_
  rintro _ h1 ⟨⟨⟨adr, w, o, ha, b, hw, hn⟩, hself, hlo⟩, st1⟩
  have or := o.own.row
  have o2 := o2.stay st1 hu
  subst hv
  repeat' (first
    | refine St.h ?_
    | simp (disch := first | omega | (simp only [lnv]; omega)) only [wlk, ↓get_put', ↓reduceIte, seval, or.l1]
    | (with_reducible (first | apply cd_split | apply gd_split)) <;> (intro hc; (try simp only [hcn] at hc); (try simp only [hc]); (try simp only [hcl] at hc); try omega))
  refine AP.buf (vs := c.map bv) (cnt := c.length) b (new_row o2.row (by simp) (by omega) (by omega) (by simp)) (st1.fl hf) (by omega) (by simp) (allOne_bv c) (by simpa using hl) fun w' h2 b2 st2 hw2 tp => ?_
  rw [← List.map_append] at b2
  have o3 := o.stay st2 hn
  obtain ⟨c1, c2, _⟩ := buf_cells b2
  repeat' (first
    | refine St.h ?_
    | simp (disch := first | omega | (simp only [lnv]; omega)) only [wlk, ↓get_put', ↓reduceIte, seval]
    | (with_reducible (first | apply cd_split | apply gd_split)) <;> (intro hc; (try simp only [hcn] at hc); (try simp only [hc]); (try simp only [hcl] at hc); try omega))
  refine ST.ownE o3 c1 c2 (by omega) (by omega) fun h3 o3 st3 => ?_
  have hgl : ∀ g N, H1 Try.prog gLen (.l id2 0 0 c.length c.length (some c.length)) g N = N.go Try.prog (.i .i64 (c.length : Int)) g := fun g N => gLen_l
  repeat' (first
    | refine St.h ?_
    | simp (disch := first | omega | (simp only [lnv]; omega)) only [wlk, ↓get_put', ↓reduceIte, seval]
    | (with_reducible (first | apply cd_split | apply gd_split)) <;> (intro hc; (try simp only [hcn] at hc); (try simp only [hc]); (try simp only [hcl] at hc); try omega))
  subst hQ
  exact bld_end hself hlo hw hn o.lt ha st1 b2 st2 hw2 o3 st3
end
theorem lclone_ok {h : H} {s : List UInt8} (hs : s.length ≤ 1000000) (hf : B.val h.floor ≤ B.val h.next) : FnOk Try.prog 63 [sv s] h fun y h' => y = sv s ∧ Stay nowhere h h' := by
  refine fn_go c63 (by intro hb; cases hb) (by simp) (by simp) fun Q hQ => ?_
  simp only [slotsF, Nat.reduceAdd]
  repeat' (first
    | refine St.h ?_
    | simp (disch := first | omega | (simp only [lnv]; omega)) only [wlk, ↓get_put', ↓reduceIte, seval, Int.toNat_natCast]
    | (with_reducible (first | apply cd_split | apply gd_split)) <;> (intro hc; (try simp only [hcn] at hc); (try simp only [hc]); (try simp only [hcl] at hc); try omega))
  · subst hQ
    have : s = [] := List.eq_nil_of_length_eq_zero (by omega)
    subst this
    exact ⟨rfl, Stay.refl _ _⟩
  refine AL.ownE (by rw [repL_bv]; simp; omega) hf fun h1 s1 n1 o1 => ?_
  have hf1 := s1.fl hf
  repeat' (first
    | refine St.h ?_
    | simp (disch := first | omega | (simp only [lnv]; omega)) only [wlk, ↓get_put', ↓reduceIte, seval, Int.toNat_natCast]
    | (with_reducible (first | apply cd_split | apply gd_split)) <;> (intro hc; (try simp only [hcn] at hc); (try simp only [hc]); (try simp only [hcl] at hc); try omega))
  refine CPS.own o1 (by omega) (by omega) (by omega) fun h2 o2 s2 => ?_
  repeat' (first
    | refine St.h ?_
    | simp (disch := first | omega | (simp only [lnv]; omega)) only [wlk, ↓get_put', ↓reduceIte, seval, Int.toNat_natCast, or_ustr]
    | (with_reducible (first | apply cd_split | apply gd_split)) <;> (intro hc; (try simp only [hcn] at hc); (try simp only [hc]); (try simp only [hcl] at hc); try omega))
  refine US.own o2 (by omega) (by omega) (by omega) fun h3 s3 => ?_
  repeat' (first
    | refine St.h ?_
    | simp (disch := first | omega | (simp only [lnv]; omega)) only [wlk, ↓get_put', ↓reduceIte, seval]
    | (with_reducible (first | apply cd_split | apply gd_split)) <;> (intro hc; (try simp only [hcn] at hc); (try simp only [hc]); (try simp only [hcl] at hc); try omega))
  subst hQ
  exact ⟨rfl, (s1.past' s2 fun i hi => by rw [hi]; exact Nat.le_refl _).past' s3 fun i hi => by rw [hi]; exact Nat.le_refl _⟩
theorem clone_ok {h : H} {s : List UInt8} (hs : s.length ≤ 1000000) (hf : B.val h.floor ≤ B.val h.next) : FnOk Try.prog 39 [sv s] h fun y h' => y = sv s ∧ Stay nowhere h h' := by
  refine fn_go c39 (by intro hb; cases hb) (by simp) (by simp) fun Q hQ => ?_
  simp only [slotsF, Nat.reduceAdd]
  repeat' (first
    | refine St.h ?_
    | simp (disch := first | omega | (simp only [lnv]; omega)) only [wlk, ↓get_put', ↓reduceIte, seval]
    | (with_reducible (first | apply cd_split | apply gd_split)) <;> (intro hc; (try simp only [hcn] at hc); (try simp only [hc]); (try simp only [hcl] at hc); try omega))
  refine CL.stay (lclone_ok hs hf) fun h1 s1 => ?_
  repeat' (first
    | refine St.h ?_
    | simp (disch := first | omega | (simp only [lnv]; omega)) only [wlk, ↓get_put', ↓reduceIte, seval]
    | (with_reducible (first | apply cd_split | apply gd_split)) <;> (intro hc; (try simp only [hcn] at hc); (try simp only [hc]); (try simp only [hcl] at hc); try omega))
  subst hQ
  exact ⟨rfl, s1⟩
theorem split_ok {h : H} {s : List UInt8} (hs : s.length ≤ 1000000) : FnOk Try.prog 38 [sv s] h fun y h' => y = .tu [sv (splT s).1, sv (splT s).2.1, .i .i64 (splT s).2.2] ∧ h' = h := by
  refine fn_go c38 (by intro hb; cases hb) (by simp) (by simp) fun Q hQ => ?_
  simp only [slotsF, Nat.reduceAdd]
  by_cases h4 : s.length < 4
  · have e : splT s = ([], [], 12) := by unfold splT; rw [if_pos h4]
    repeat' (first
      | refine St.h ?_
      | simp (disch := first | omega | (simp only [lnv]; omega)) only [wlk, ↓get_put', ↓reduceIte, seval]
      | (with_reducible (first | apply cd_split | apply gd_split)) <;> (intro hc; (try simp only [hcn] at hc); (try simp only [hc]); (try simp only [hcl] at hc); try omega))
    subst hQ
    exact ⟨by rw [e], rfl⟩
  obtain ⟨n, hn⟩ : ∃ n : Nat, s.length = n + 4 := ⟨s.length - 4, by omega⟩
  have e4 : (s.length : Int) - 4 = (n : Int) := by omega
  have hdl : (s.drop n).length = 4 := by rw [List.length_drop]; omega
  have hpk : pk (s.drop n) < 4294967296 := by have := pk_lt (s.drop n); rw [hdl] at this; simpa using this
  repeat' (first
    | refine St.h ?_
    | simp (disch := first | omega | (simp only [lnv]; omega)) only [wlk, ↓get_put', ↓reduceIte, seval, e4]
    | (with_reducible (first | apply cd_split | apply gd_split)) <;> (intro hc; (try simp only [hcn] at hc); (try simp only [hc]); (try simp only [hcl] at hc); try omega))
  refine Ok.lp (fun m t g => ∃ j : Nat, m = 4 - j ∧ j ≤ 4 ∧ h = g ∧ get 0 t = sv s ∧ get 5 t = .i .i64 (n : Int) ∧ get 6 t = .i .u64 ((pk ((s.drop n).take j) : Nat) : Int) ∧ get 7 t = .i .i64 ((n + j : Nat) : Int)) 4 ?_ ?_
  · simp (disch := first | omega | (simp only [lnv]; omega)) only [wlk, ↓get_put', ↓reduceIte, seval, e4]
    refine ⟨0, by omega, by omega, trivial, ?_, ?_, ?_, ?_⟩ <;> first | trivial | rfl
  rintro I hI m t g ⟨j, rfl, hj, rfl, f0, f5, f6, f7⟩
  have hpj : pk ((s.drop n).take j) < 256 ^ j := by
    have := pk_lt ((s.drop n).take j)
    rwa [show ((s.drop n).take j).length = j by rw [List.length_take]; omega] at this
  by_cases hjl : j < 4
  · have hp3 : 256 ^ j ≤ 256 ^ 3 := Nat.pow_le_pow_right (by omega) (by omega)
    have hc := (s.getD (n + j) 0).toNat_lt
    have hgd : (s.drop n).getD j 0 = s.getD (n + j) 0 := by simp [List.getD, List.getElem?_drop]
    have n1 : ((pk ((s.drop n).take j) : Int) * 256).toNat ||| (s.getD (n + j) 0).toNat = pk ((s.drop n).take (j + 1)) := by
      rw [show ((pk ((s.drop n).take j) : Int) * 256).toNat = pk ((s.drop n).take j) * 2 ^ 8 by omega, or_add (by omega), pk_take (by omega), hgd]
    repeat' (first
      | refine St.h ?_
      | simp (disch := first | omega | (simp only [lnv]; omega)) only [wlk, ↓get_put', ↓reduceIte, seval, f0, f5, f6, f7, Int.toNat_natCast]
      | (with_reducible (first | apply cd_split | apply gd_split)) <;> (intro hc; (try simp only [hcn] at hc); (try simp only [hc]); (try simp only [hcl] at hc); try omega))
    refine lp_next hI (4 - (j + 1)) (by omega) ⟨j + 1, rfl, by omega, rfl, ?_, ?_, ?_, ?_⟩
    · simp (disch := first | omega | (simp only [lnv]; omega)) only [wlk, ↓get_put', ↓reduceIte, seval, f0]
    · simp (disch := first | omega | (simp only [lnv]; omega)) only [wlk, ↓get_put', ↓reduceIte, seval, f5]
    · simp (disch := first | omega | (simp only [lnv]; omega)) only [wlk, ↓get_put', ↓reduceIte, seval, n1]
    · simp (disch := first | omega | (simp only [lnv]; omega)) only [wlk, ↓get_put', ↓reduceIte, seval, f7]; rfl
  obtain rfl : j = 4 := by omega
  have htk : (s.drop n).take 4 = s.drop n := List.take_of_length_le (by omega)
  rw [htk] at f6
  have hun : splT s = if n < pk (s.drop n) then ([], [], 12) else (s.take (pk (s.drop n)), (s.take n).drop (pk (s.drop n)), 0) := by
    unfold splT; rw [if_neg h4, show s.length - 4 = n by omega]
  generalize pk (s.drop n) = q at *
  repeat' (first
    | refine St.h ?_
    | simp (disch := first | omega | (simp only [lnv]; omega)) only [wlk, ↓get_put', ↓reduceIte, seval, f0, f5, f6, f7, Int.toNat_natCast]
    | (with_reducible (first | apply cd_split | apply gd_split)) <;> (intro hc; (try simp only [hcn] at hc); (try simp only [hc]); (try simp only [hcl] at hc); try omega))
  · subst hQ
    exact ⟨by rw [hun, if_pos (by omega)], rfl⟩
  · subst hQ
    exact ⟨by rw [hun, if_neg (by omega)], rfl⟩
end Go.Proofs.Ytiingkpdodbldaa

set_option maxRecDepth 100000
set_option maxHeartbeats 8000000
set_option linter.all false
namespace Go.Proofs.Ytiingkpdodbldaa
open Go Go.Ev
/-- what takePiece tells -/
structure PcR (ix bl : List UInt8) (p : Pc) (n : Nat) (ok : Bool) : Prop where
  fit : ok = true → 1 ≤ n ∧ n ≤ ix.length ∧ 1 ≤ p.b.length ∧ p.b.length ≤ bl.length
  laid : ∀ b more bm, okB b → b.length ≤ 100 → ix = oneIx b ++ more → bl = blkB b ++ bm → ok = true ∧ p = pcOf b ∧ n = (oneIx b).length
theorem PcR.bad {ix bl : List UInt8} (no : ∀ b more bm, okB b → b.length ≤ 100 → ix = oneIx b ++ more → bl = blkB b ++ bm → False) : PcR ix bl pcZ 0 false :=
  ⟨fun h => (by cases h), fun b more bm h1 h2 h3 h4 => (no b more bm h1 h2 h3 h4).elim⟩
theorem takePiece_ok {h : H} {ix bl : List UInt8} (hi : ix.length ≤ 1000000) (hb : bl.length ≤ 1000000) (hf : B.val h.floor ≤ B.val h.next) : FnOk Try.prog 80 [sv ix, sv bl] h fun y h' =>
    (∃ p n ok, y = .tu [.a (pcC p), .i .i64 ((n : Nat) : Int), .b ok] ∧ PcR ix bl p n ok) ∧ Stay nowhere h h' := by
  refine fn_go c80 (by intro hb; cases hb) (by simp) (by simp) fun Q hQ => ?_
  simp only [slotsF, Nat.reduceAdd]
  repeat' (first
    | refine St.h ?_
    | simp (disch := first | omega | (simp only [lnv]; omega)) only [wlk, ↓get_put', ↓reduceIte, seval]
    | (with_reducible (first | apply cd_split | apply gd_split)) <;> (intro hc; (try simp only [hcn] at hc); (try simp only [hc]); (try simp only [hcl] at hc); try omega))
  refine AL.own (by simp) hf fun h1 s1 n1 o1 => ?_
  repeat' (first
    | refine St.h ?_
    | simp (disch := first | omega | (simp only [lnv]; omega)) only [wlk, ↓get_put', ↓reduceIte, seval]
    | (with_reducible (first | apply cd_split | apply gd_split)) <;> (intro hc; (try simp only [hcn] at hc); (try simp only [hc]); (try simp only [hcl] at hc); try omega))
  refine CL.pure (takeNum_ok hi) ?_
  have hpc : ([sv [], sv [], sv []] : List V) = pcC pcZ := rfl
  have bad : ∀ g, Stay (fun i => i = h.next) h1 g → (∀ b more bm, okB b → b.length ≤ 100 → ix = oneIx b ++ more → bl = blkB b ++ bm → False) → (∃ p n ok, V.tu [.a [sv [], sv [], sv []], .i .i64 0, .b false] = .tu [.a (pcC p), .i .i64 ((n : Nat) : Int), .b ok] ∧ PcR ix bl p n ok) ∧ Stay nowhere h g :=
    fun g sg no => ⟨⟨pcZ, 0, false, rfl, PcR.bad no⟩, s1.past' sg fun q hq => by rw [hq]; exact Nat.le_refl _⟩
  rcases takeN_range ix with hN' | ⟨n, k, hN, n1', k1, k2, k3⟩
  · obtain ⟨f, hN, hfn⟩ : ∃ f, takeN ix = (0, 0, f) ∧ f ≠ 0 := by
      rcases hN' with h | h
      · exact ⟨_, h, by omega⟩
      · exact ⟨_, h, by omega⟩
    rw [hN]; unfold tri
    have hz : (f = 0) = False := eq_false hfn
    repeat' (first
      | refine St.h ?_
      | simp (disch := first | omega | (simp only [lnv]; omega)) only [wlk, ↓get_put', ↓reduceIte, seval, hz]
      | (with_reducible (first | apply cd_split | apply gd_split)) <;> (intro hc; (try simp only [hcn] at hc); (try simp only [hc]); (try simp only [hcl] at hc); try omega))
    refine ST.all o1 rfl rfl (by simp) (by simp) fun g og sg => ?_
    repeat' (first
      | refine St.h ?_
      | simp (disch := first | omega | (simp only [lnv]; omega)) only [wlk, ↓get_put', ↓reduceIte, seval, og.ra3]
      | (with_reducible (first | apply cd_split | apply gd_split)) <;> (intro hc; (try simp only [hcn] at hc); (try simp only [hc]); (try simp only [hcl] at hc); try omega))
    subst hQ
    refine bad g sg fun b more bm h1 h2 h3 h4 => ?_
    rw [h3, one_num h2] at hN
    exact hfn (Prod.mk.inj (Prod.mk.inj hN).2).2.symm
  rw [hN]; unfold tri
  have hdl : (ix.drop k).length = ix.length - k := List.length_drop
  have hsz : ∀ b more bm, okB b → b.length ≤ 100 → ix = oneIx b ++ more → bl = blkB b ++ bm → n = (blkB b).length ∧ k = (numB (blkB b).length).length ∧ 1 ≤ n ∧ n ≤ bl.length := fun b more bm h1 h2 h3 h4 => by
    have hN2 := hN
    rw [h3, one_num h2] at hN2
    have e1 : (blkB b).length = n := Int.ofNat.inj (Prod.mk.inj hN2).1
    have e2 : (numB (blkB b).length).length = k := Int.ofNat.inj (Prod.mk.inj (Prod.mk.inj hN2).2).1
    have := blkB_pos h1
    refine ⟨e1.symm, e2.symm, by omega, by rw [h4, List.length_append]; omega⟩
  repeat' (first
    | refine St.h ?_
    | simp (disch := first | omega | (simp only [lnv]; omega)) only [wlk, ↓get_put', ↓reduceIte, seval, Int.toNat_natCast]
    | (with_reducible (first | apply cd_split | apply gd_split)) <;> (intro hc; (try simp only [hcn] at hc); (try simp only [hc]); (try simp only [hcl] at hc); try omega))
  · refine ST.all o1 rfl rfl (by simp) (by simp) fun g og sg => ?_
    repeat' (first
      | refine St.h ?_
      | simp (disch := first | omega | (simp only [lnv]; omega)) only [wlk, ↓get_put', ↓reduceIte, seval, og.ra3]
      | (with_reducible (first | apply cd_split | apply gd_split)) <;> (intro hc; (try simp only [hcn] at hc); (try simp only [hc]); (try simp only [hcl] at hc); try omega))
    subst hQ
    exact bad g sg fun b more bm h1 h2 h3 h4 => by have := hsz b more bm h1 h2 h3 h4; omega
  · refine ST.all o1 rfl rfl (by simp) (by simp) fun g og sg => ?_
    repeat' (first
      | refine St.h ?_
      | simp (disch := first | omega | (simp only [lnv]; omega)) only [wlk, ↓get_put', ↓reduceIte, seval, og.ra3]
      | (with_reducible (first | apply cd_split | apply gd_split)) <;> (intro hc; (try simp only [hcn] at hc); (try simp only [hc]); (try simp only [hcl] at hc); try omega))
    subst hQ
    exact bad g sg fun b more bm h1 h2 h3 h4 => by have := hsz b more bm h1 h2 h3 h4; omega
  refine CL.pure (takeText_ok (by omega)) ?_
  rcases takeT_range (ix.drop k) with hT' | ⟨tx, j, hT, j1, j2, j3⟩
  · obtain ⟨f, hT, hfn⟩ : ∃ f, takeT (ix.drop k) = ([], 0, f) ∧ f ≠ 0 := by
      rcases hT' with h | h
      · exact ⟨_, h, by omega⟩
      · exact ⟨_, h, by omega⟩
    rw [hT]; unfold triT
    have hz : (f = 0) = False := eq_false hfn
    repeat' (first
      | refine St.h ?_
      | simp (disch := first | omega | (simp only [lnv]; omega)) only [wlk, ↓get_put', ↓reduceIte, seval, hz]
      | (with_reducible (first | apply cd_split | apply gd_split)) <;> (intro hc; (try simp only [hcn] at hc); (try simp only [hc]); (try simp only [hcl] at hc); try omega))
    refine ST.all o1 rfl rfl (by simp) (by simp) fun g og sg => ?_
    repeat' (first
      | refine St.h ?_
      | simp (disch := first | omega | (simp only [lnv]; omega)) only [wlk, ↓get_put', ↓reduceIte, seval, og.ra3]
      | (with_reducible (first | apply cd_split | apply gd_split)) <;> (intro hc; (try simp only [hcn] at hc); (try simp only [hc]); (try simp only [hcl] at hc); try omega))
    subst hQ
    refine bad g sg fun b more bm h1 h2 h3 h4 => ?_
    obtain ⟨e1, e2, _⟩ := hsz b more bm h1 h2 h3 h4
    rw [h3, e2, one_first h1] at hT
    exact hfn (Prod.mk.inj (Prod.mk.inj hT).2).2.symm
  rw [hT]; unfold triT
  have hfi : ∀ b more bm, okB b → b.length ≤ 100 → ix = oneIx b ++ more → bl = blkB b ++ bm → tx = firstK b ∧ j = (textB (firstK b)).length := fun b more bm h1 h2 h3 h4 => by
    obtain ⟨e1, e2, _⟩ := hsz b more bm h1 h2 h3 h4
    have hT2 := hT
    rw [h3, e2, one_first h1] at hT2
    exact ⟨(Prod.mk.inj hT2).1.symm, (Int.ofNat.inj (Prod.mk.inj (Prod.mk.inj hT2).2).1).symm⟩
  have hkj : ((k : Int) + (j : Int)) = ((k + j : Nat) : Int) := by omega
  have hdl2 : (ix.drop (k + j)).length = ix.length - (k + j) := List.length_drop
  repeat' (first
    | refine St.h ?_
    | simp (disch := first | omega | (simp only [lnv]; omega)) only [wlk, ↓get_put', ↓reduceIte, seval, hkj, Int.toNat_natCast]
    | (with_reducible (first | apply cd_split | apply gd_split)) <;> (intro hc; (try simp only [hcn] at hc); (try simp only [hc]); (try simp only [hcl] at hc); try omega))
  refine CL.pure (takeText_ok (by omega)) ?_
  rcases takeT_range (ix.drop (k + j)) with hU' | ⟨ty, i, hU, i1, i2, i3⟩
  · obtain ⟨f, hU, hfn⟩ : ∃ f, takeT (ix.drop (k + j)) = ([], 0, f) ∧ f ≠ 0 := by
      rcases hU' with h | h
      · exact ⟨_, h, by omega⟩
      · exact ⟨_, h, by omega⟩
    rw [hU]; unfold triT
    have hz : (f = 0) = False := eq_false hfn
    repeat' (first
      | refine St.h ?_
      | simp (disch := first | omega | (simp only [lnv]; omega)) only [wlk, ↓get_put', ↓reduceIte, seval, hz]
      | (with_reducible (first | apply cd_split | apply gd_split)) <;> (intro hc; (try simp only [hcn] at hc); (try simp only [hc]); (try simp only [hcl] at hc); try omega))
    refine ST.all o1 rfl rfl (by simp) (by simp) fun g og sg => ?_
    repeat' (first
      | refine St.h ?_
      | simp (disch := first | omega | (simp only [lnv]; omega)) only [wlk, ↓get_put', ↓reduceIte, seval, og.ra3]
      | (with_reducible (first | apply cd_split | apply gd_split)) <;> (intro hc; (try simp only [hcn] at hc); (try simp only [hc]); (try simp only [hcl] at hc); try omega))
    subst hQ
    refine bad g sg fun b more bm h1 h2 h3 h4 => ?_
    obtain ⟨e1, e2, _⟩ := hsz b more bm h1 h2 h3 h4
    obtain ⟨e3, e4⟩ := hfi b more bm h1 h2 h3 h4
    rw [h3, e2, e4, one_last h1] at hU
    exact hfn (Prod.mk.inj (Prod.mk.inj hU).2).2.symm
  rw [hU]; unfold triT
  have hla : ∀ b more bm, okB b → b.length ≤ 100 → ix = oneIx b ++ more → bl = blkB b ++ bm → ty = lastK b ∧ i = (textB (lastK b)).length := fun b more bm h1 h2 h3 h4 => by
    obtain ⟨e1, e2, _⟩ := hsz b more bm h1 h2 h3 h4
    obtain ⟨e3, e4⟩ := hfi b more bm h1 h2 h3 h4
    have hU2 := hU
    rw [h3, e2, e4, one_last h1] at hU2
    exact ⟨(Prod.mk.inj hU2).1.symm, (Int.ofNat.inj (Prod.mk.inj (Prod.mk.inj hU2).2).1).symm⟩
  have hks : ∀ b more bm, okB b → b.length ≤ 100 → ix = oneIx b ++ more → bl = blkB b ++ bm → (1 ≤ tx.length ∧ tx.length ≤ 13) ∧ (1 ≤ ty.length ∧ ty.length ≤ 13) ∧ (Op.bytesLess tx ty || decide (tx = ty)) = true := fun b more bm h1 h2 h3 h4 => by
    obtain ⟨e3, e4⟩ := hfi b more bm h1 h2 h3 h4
    obtain ⟨e5, e6⟩ := hla b more bm h1 h2 h3 h4
    have hp := okB_pos h1
    rw [e3, e5]
    refine ⟨okB_key h1 (i := 0) (by omega), okB_key h1 (i := b.length - 1) (by omega), ?_⟩
    by_cases he : firstK b = lastK b
    · rw [decide_eq_true he, Bool.or_true]
    · rcases bl_total he with h7 | h7
      · rw [h7]; rfl
      · rw [first_last h1] at h7; cases h7
  repeat' (first
    | refine St.h ?_
    | simp (disch := first | omega | (simp only [lnv]; omega)) only [wlk, ↓get_put', ↓reduceIte, seval, hkj]
    | (with_reducible (first | apply cd_split | apply gd_split)) <;> (intro hc; (try simp only [hcn] at hc); (try simp only [hc]); (try simp only [hcl] at hc); try omega))
  refine CL.pure (isKey_ok (by omega)) ?_
  by_cases k1' : 1 ≤ tx.length ∧ tx.length ≤ 13
  case neg =>
    have hd := decide_eq_false k1'
    rw [hd]
    repeat' (first
      | refine St.h ?_
      | simp (disch := first | omega | (simp only [lnv]; omega)) only [wlk, ↓get_put', ↓reduceIte, seval]
      | (with_reducible (first | apply cd_split | apply gd_split)) <;> (intro hc; (try simp only [hcn] at hc); (try simp only [hc]); (try simp only [hcl] at hc); try omega))
    refine ST.all o1 rfl rfl (by simp) (by simp) fun g og sg => ?_
    repeat' (first
      | refine St.h ?_
      | simp (disch := first | omega | (simp only [lnv]; omega)) only [wlk, ↓get_put', ↓reduceIte, seval, og.ra3]
      | (with_reducible (first | apply cd_split | apply gd_split)) <;> (intro hc; (try simp only [hcn] at hc); (try simp only [hc]); (try simp only [hcl] at hc); try omega))
    subst hQ
    exact bad g sg fun b more bm h1 h2 h3 h4 => k1' (hks b more bm h1 h2 h3 h4).1
  rw [decide_eq_true k1']
  repeat' (first
    | refine St.h ?_
    | simp (disch := first | omega | (simp only [lnv]; omega)) only [wlk, ↓get_put', ↓reduceIte, seval]
    | (with_reducible (first | apply cd_split | apply gd_split)) <;> (intro hc; (try simp only [hcn] at hc); (try simp only [hc]); (try simp only [hcl] at hc); try omega))
  refine CL.pure (isKey_ok (by omega)) ?_
  by_cases k2' : 1 ≤ ty.length ∧ ty.length ≤ 13
  case neg =>
    have hd := decide_eq_false k2'
    rw [hd]
    repeat' (first
      | refine St.h ?_
      | simp (disch := first | omega | (simp only [lnv]; omega)) only [wlk, ↓get_put', ↓reduceIte, seval]
      | (with_reducible (first | apply cd_split | apply gd_split)) <;> (intro hc; (try simp only [hcn] at hc); (try simp only [hc]); (try simp only [hcl] at hc); try omega))
    refine ST.all o1 rfl rfl (by simp) (by simp) fun g og sg => ?_
    repeat' (first
      | refine St.h ?_
      | simp (disch := first | omega | (simp only [lnv]; omega)) only [wlk, ↓get_put', ↓reduceIte, seval, og.ra3]
      | (with_reducible (first | apply cd_split | apply gd_split)) <;> (intro hc; (try simp only [hcn] at hc); (try simp only [hc]); (try simp only [hcl] at hc); try omega))
    subst hQ
    exact bad g sg fun b more bm h1 h2 h3 h4 => k2' (hks b more bm h1 h2 h3 h4).2.1
  rw [decide_eq_true k2']
  repeat' (first
    | refine St.h ?_
    | simp (disch := first | omega | (simp only [lnv]; omega)) only [wlk, ↓get_put', ↓reduceIte, seval, Int.toNat_natCast]
    | (with_reducible (first | apply cd_split | apply gd_split)) <;> (intro hc; (try simp only [hcn] at hc); (try simp only [hc]); (try simp only [hcl] at hc); try omega))
  · refine ST.all o1 rfl rfl (by simp) (by simp) fun g og sg => ?_
    repeat' (first
      | refine St.h ?_
      | simp (disch := first | omega | (simp only [lnv]; omega)) only [wlk, ↓get_put', ↓reduceIte, seval, og.ra3]
      | (with_reducible (first | apply cd_split | apply gd_split)) <;> (intro hc; (try simp only [hcn] at hc); (try simp only [hc]); (try simp only [hcl] at hc); try omega))
    subst hQ
    exact bad g sg fun b more bm h1 h2 h3 h4 => by have := (hks b more bm h1 h2 h3 h4).2.2; rw [hc] at this; cases this
  refine ST.all o1 rfl rfl (by simp) (by simp) fun g og sg => ?_
  repeat' (first
    | refine St.h ?_
    | simp (disch := first | omega | (simp only [lnv]; omega)) only [wlk, ↓get_put', ↓reduceIte, seval, og.ra3]
    | (with_reducible (first | apply cd_split | apply gd_split)) <;> (intro hc; (try simp only [hcn] at hc); (try simp only [hc]); (try simp only [hcl] at hc); try omega))
  subst hQ
  have hkji : ((k + j : Nat) : Int) + (i : Int) = ((k + j + i : Nat) : Int) := by omega
  refine ⟨⟨⟨bl.take n, tx, ty⟩, k + j + i, true, by rw [hkji]; rfl, fun _ => ⟨by omega, by omega, by rw [List.length_take]; omega, by rw [List.length_take]; omega⟩, fun b more bm h1 h2 h3 h4 => ⟨rfl, ?_, ?_⟩⟩, s1.past' sg fun q hq => by rw [hq]; exact Nat.le_refl _⟩
  · obtain ⟨e1, e2, _⟩ := hsz b more bm h1 h2 h3 h4
    obtain ⟨e3, e4⟩ := hfi b more bm h1 h2 h3 h4
    obtain ⟨e5, e6⟩ := hla b more bm h1 h2 h3 h4
    unfold pcOf
    rw [e3, e5, h4, e1, List.take_left]
  · obtain ⟨e1, e2, _⟩ := hsz b more bm h1 h2 h3 h4
    obtain ⟨e3, e4⟩ := hfi b more bm h1 h2 h3 h4
    obtain ⟨e5, e6⟩ := hla b more bm h1 h2 h3 h4
    rw [one_ilen, e2, e4, e6]
theorem swn_buf {h : H} {el n : Nat} {v : V} {xs : List V} (b : Buf h el n v xs) : SwN n v := by
  rcases b with ⟨rfl, _⟩ | ⟨id, g, m, blk, rfl, h1, h2, _⟩
  · exact .inl rfl
  · exact .inr ⟨_, _, _, _, _, _, rfl, by show xs.length = 0 + m * n; omega⟩
theorem takePieces_ok {h : H} {ix bl : List UInt8} (hi : ix.length ≤ 300000) (hb : bl.length ≤ 1000000) (hf : B.val h.floor ≤ B.val h.next) : FnOk Try.prog 65 [sv ix, sv bl] h fun y h' =>
    ∃ v ok ps, y = .tu [v, .b ok] ∧ Ps h' v ps ∧ SwN 3 v ∧ ps.length ≤ ix.length ∧ Stay nowhere h h' ∧ ∀ bs, Chn [] bs → ix = idxT bs → bl = bodyT bs → ok = true ∧ ps = bs.map pcOf := by
  refine fn_go c65 (by intro hb; cases hb) (by simp) (by simp) fun Q hQ => ?_
  simp only [slotsF, Nat.reduceAdd]
  repeat' (first
    | refine St.h ?_
    | simp (disch := first | omega | (simp only [lnv]; omega)) only [wlk, ↓get_put', ↓reduceIte, seval]
    | (with_reducible (first | apply cd_split | apply gd_split)) <;> (intro hc; (try simp only [hcn] at hc); (try simp only [hc]); (try simp only [hcl] at hc); try omega))
  refine Ok.lp (fun m t g => ∃ (out : List Pc) (ir br la : List UInt8) (u : V), m = ir.length ∧ br.length ≤ bl.length ∧ out.length + ir.length ≤ ix.length ∧ (∀ bs, Chn [] bs → ix = idxT bs → bl = bodyT bs → ∃ bs2, Chn la bs2 ∧ bs.map pcOf = out ++ bs2.map pcOf ∧ ir = idxT bs2 ∧ br = bodyT bs2) ∧ get 0 t = sv ir ∧ get 1 t = sv br ∧ get 6 t = u ∧ get 7 t = sv la ∧ Stay nowhere h g ∧ Buf g 60 3 u (out.flatMap pcC) ∧ (∀ i, isOf u i → B.val h.next ≤ B.val i)) ix.length ?_ ?_
  · simp (disch := first | omega | (simp only [lnv]; omega)) only [wlk, ↓get_put', ↓reduceIte, seval]
    refine ⟨[], ix, bl, [], .l0, rfl, by omega, by simp, fun bs h1 h2 h3 => ⟨bs, h1, rfl, h2, h3⟩, ?_⟩
    refine ⟨?_, ?_, ?_, ?_, Stay.refl _ _, Buf.nil _ _ _, ?_⟩
    rotate_right
    · rintro i ⟨_, _, _, _, _, e⟩; cases e
    all_goals first | trivial | rfl
  rintro I hI m t g ⟨out, ir, br, la, u, rfl, hbr, hil, hM, f0, f1, f6, f7, st, bf, own⟩
  have hfg := st.fl hf
  have hps : Ps g u out := Ss.buf bf rfl pcC_len (by omega)
  by_cases hir : ir = []
  case pos =>
    have hd : (ir = []) = True := eq_true hir
    cases hbe : decide (br = []) with
    | true =>
      repeat' (first
        | refine St.h ?_
        | simp (disch := first | omega | (simp only [lnv]; omega)) only [wlk, ↓get_put', ↓reduceIte, seval, f0, f1, f6, f7, hd, hbe]
        | (with_reducible (first | apply cd_split | apply gd_split)) <;> (intro hc; (try simp only [hcn] at hc); (try simp only [hc]); (try simp only [hcl] at hc); try omega))
      subst hQ
      refine ⟨u, true, out, rfl, hps, swn_buf bf, by omega, st, fun bs h1 h2 h3 => ⟨rfl, ?_⟩⟩
      obtain ⟨bs2, a1, a2, a3, a4⟩ := hM bs h1 h2 h3
      cases bs2 with
      | nil => rw [a2]; simp
      | cons b bs2 =>
        rw [hir, idxT_cons] at a3
        exact absurd (List.append_eq_nil_iff.1 a3.symm).1 (oneIx_ne b)
    | false =>
      repeat' (first
        | refine St.h ?_
        | simp (disch := first | omega | (simp only [lnv]; omega)) only [wlk, ↓get_put', ↓reduceIte, seval, f0, f1, f6, f7, hd, hbe]
        | (with_reducible (first | apply cd_split | apply gd_split)) <;> (intro hc; (try simp only [hcn] at hc); (try simp only [hc]); (try simp only [hcl] at hc); try omega))
      subst hQ
      refine ⟨u, false, out, rfl, hps, swn_buf bf, by omega, st, fun bs h1 h2 h3 => ?_⟩
      obtain ⟨bs2, a1, a2, a3, a4⟩ := hM bs h1 h2 h3
      cases bs2 with
      | nil => rw [decide_eq_false_iff_not] at hbe; exact absurd a4 hbe
      | cons b bs2 =>
        rw [hir, idxT_cons] at a3
        exact absurd (List.append_eq_nil_iff.1 a3.symm).1 (oneIx_ne b)
  have hd : (ir = []) = False := eq_false hir
  repeat' (first
    | refine St.h ?_
    | simp (disch := first | omega | (simp only [lnv]; omega)) only [wlk, ↓get_put', ↓reduceIte, seval, f0, f1, f6, f7, hd]
    | (with_reducible (first | apply cd_split | apply gd_split)) <;> (intro hc; (try simp only [hcn] at hc); (try simp only [hc]); (try simp only [hcl] at hc); try omega))
  refine CL.mk (takePiece_ok (by omega) (by omega) hfg) ?_
  rintro _ g1 ⟨⟨p, n, ok, rfl, hr⟩, t1⟩
  have hfg1 := t1.fl hfg
  have bf1 := bf.grow t1
  obtain ⟨pb, pf, pl⟩ := p
  unfold pcC
  repeat' (first
    | refine St.h ?_
    | simp (disch := first | omega | (simp only [lnv]; omega)) only [wlk, ↓get_put', ↓reduceIte, seval, f0, f1, f6, f7]
    | (with_reducible (first | apply cd_split | apply gd_split)) <;> (intro hc; (try simp only [hcn] at hc); (try simp only [hc]); (try simp only [hcl] at hc); try omega))
  refine AL.own (by simp) hfg1 fun g2 t2 n2 o2 => ?_
  have hfg2 := t2.fl hfg1
  have bf2 := bf1.grow t2
  repeat' (first
    | refine St.h ?_
    | simp (disch := first | omega | (simp only [lnv]; omega)) only [wlk, ↓get_put', ↓reduceIte, seval, f0, f1, f6, f7]
    | (with_reducible (first | apply cd_split | apply gd_split)) <;> (intro hc; (try simp only [hcn] at hc); (try simp only [hc]); (try simp only [hcl] at hc); try omega))
  refine ST.all o2 rfl rfl (by simp) (by simp) fun g3 o3 t3 => ?_
  have hu3 : ∀ q, isOf u q → q ≠ g1.next := fun q hq e => absurd (bf1.own hq).2 (by rw [e]; exact Nat.lt_irrefl _)
  have bf3 := bf2.stay t3 (fun q hq => hu3 q hq)
  have t13 : Stay nowhere g1 g3 := t2.past' t3 fun q hq => by rw [hq]; exact Nat.le_refl _
  have st3 := (st.trans t1).trans t13
  have hfg3 := st3.fl hf
  have bad : (∀ bs, Chn [] bs → ix = idxT bs → bl = bodyT bs → False) → ∃ v ok ps, V.tu [.l0, .b false] = .tu [v, .b ok] ∧ Ps g3 v ps ∧ SwN 3 v ∧ ps.length ≤ ix.length ∧ Stay nowhere h g3 ∧ ∀ bs, Chn [] bs → ix = idxT bs → bl = bodyT bs → ok = true ∧ ps = bs.map pcOf :=
    fun no => ⟨.l0, false, [], rfl, Ss.nil, .inl rfl, by simp, st3, fun bs h1 h2 h3 => (no bs h1 h2 h3).elim⟩
  have hnx : ∀ bs, Chn [] bs → ix = idxT bs → bl = bodyT bs → ok = true ∧ ∃ b bs2, bs.map pcOf = out ++ pcOf b :: bs2.map pcOf ∧ Op.bytesLess pf la = false ∧ Chn (lastK b) bs2 ∧ (⟨pb, pf, pl⟩ : Pc) = pcOf b ∧ n = (oneIx b).length ∧ ir = oneIx b ++ idxT bs2 ∧ br = blkB b ++ bodyT bs2 := fun bs h1 h2 h3 => by
    obtain ⟨bs2, a1, a2, a3, a4⟩ := hM bs h1 h2 h3
    cases bs2 with
    | nil => exact absurd a3 hir
    | cons b bs2 =>
      obtain ⟨b1, b2, b3, b4⟩ := a1
      obtain ⟨c1, c2, c3⟩ := hr.laid b _ _ b1 b2 a3 a4
      have : pf = firstK b := congrArg Pc.f c2
      exact ⟨c1, b, bs2, a2, by rw [this]; exact b3, b4, c2, c3, a3, a4⟩
  cases ok with
  | false =>
    repeat' (first
      | refine St.h ?_
      | simp (disch := first | omega | (simp only [lnv]; omega)) only [wlk, ↓get_put', ↓reduceIte, seval, f0, f1, f6, f7]
      | (with_reducible (first | apply cd_split | apply gd_split)) <;> (intro hc; (try simp only [hcn] at hc); (try simp only [hc]); (try simp only [hcl] at hc); try omega))
    subst hQ
    exact bad fun bs h1 h2 h3 => by have := (hnx bs h1 h2 h3).1; cases this
  | true =>
  obtain ⟨r1, r2, r3, r4⟩ := hr.fit rfl
  simp only at r3 r4
  by_cases hlt : (Op.bytesLess la pf || decide (la = pf)) = true
  case neg =>
    have hlt' : (Op.bytesLess la pf || decide (la = pf)) = false := by simpa using hlt
    repeat' (first
      | refine St.h ?_
      | simp (disch := first | omega | (simp only [lnv]; omega)) only [wlk, ↓get_put', ↓reduceIte, seval, f0, f1, f6, f7, o3.row.l1, hlt']
      | (with_reducible (first | apply cd_split | apply gd_split)) <;> (intro hc; (try simp only [hcn] at hc); (try simp only [hc]); (try simp only [hcl] at hc); try omega))
    subst hQ
    refine bad fun bs h1 h2 h3 => ?_
    obtain ⟨_, b, bs2, _, a2, _⟩ := hnx bs h1 h2 h3
    apply hlt
    by_cases he : la = pf
    · rw [decide_eq_true he, Bool.or_true]
    · rcases bl_total he with h7 | h7
      · rw [h7]; rfl
      · rw [a2] at h7; cases h7
  repeat' (first
    | refine St.h ?_
    | simp (disch := first | omega | (simp only [lnv]; omega)) only [wlk, ↓get_put', ↓reduceIte, seval, f0, f1, f6, f7, o3.row.l1, hlt, o3.row.ln]
    | (with_reducible (first | apply cd_split | apply gd_split)) <;> (intro hc; (try simp only [hcn] at hc); (try simp only [hc]); (try simp only [hcl] at hc); try omega))
  refine AL.own (by simp) hfg3 fun g4 t4 _ o4 => ?_
  have hfg4 := t4.fl hfg3
  have bf4 := bf3.grow t4
  have o34 := o3.stay t4 fun h => h
  have hfm := fm_len pcC_len out
  repeat' (first
    | refine St.h ?_
    | simp (disch := first | omega | (simp only [lnv]; omega)) only [wlk, ↓get_put', ↓reduceIte, seval, f0, f1, f6, f7]
    | (with_reducible (first | apply cd_split | apply gd_split)) <;> (intro hc; (try simp only [hcn] at hc); (try simp only [hc]); (try simp only [hcl] at hc); try omega))
  refine AP.buf (vs := pcC ⟨pb, pf, pl⟩) (cnt := 1) bf4 (new_row o4.row rfl (Nat.le_refl _) (by omega) (by show 3 ≤ 3; omega)) hfg4 (by omega) rfl rfl (by rw [hfm, pcC_len]; omega) fun u' g5 b5 t5 ho tp => ?_
  have hug : ¬ isOf u g1.next := fun hq => hu3 _ hq rfl
  have o35 := o34.stay t5 hug
  repeat' (first
    | refine St.h ?_
    | simp (disch := first | omega | (simp only [lnv]; omega)) only [wlk, ↓get_put', ↓reduceIte, seval, f0, f1, f6, f7, o35.row.l1, Int.toNat_natCast]
    | (with_reducible (first | apply cd_split | apply gd_split)) <;> (intro hc; (try simp only [hcn] at hc); (try simp only [hc]); (try simp only [hcl] at hc); try omega))
  have s5 : Stay nowhere h g5 := (st3.trans t4).past' t5 fun q hq => own q hq
  refine lp_next hI (ir.drop n).length (by rw [List.length_drop]; omega) ⟨out ++ [⟨pb, pf, pl⟩], ir.drop n, br.drop pb.length, pl, u', rfl, by rw [List.length_drop]; omega, by rw [List.length_append, List.length_drop]; simp; omega, ?_, ?_, ?_, ?_, ?_, s5, ?_, fun q hq => ?_⟩
  · intro bs h1 h2 h3
    obtain ⟨_, b, bs2, a1, a2, a3, a4, a5, a6, a7⟩ := hnx bs h1 h2 h3
    have e1 : pb = blkB b := congrArg Pc.b a4
    have e2 : pl = lastK b := congrArg Pc.l a4
    refine ⟨bs2, by rw [e2]; exact a3, by rw [a1, a4]; simp, ?_, ?_⟩
    · rw [a6, a5, List.drop_left]
    · rw [a7, e1, List.drop_left]
  · simp (disch := first | omega | (simp only [lnv]; omega)) only [wlk, ↓get_put', ↓reduceIte, seval]
  · simp (disch := first | omega | (simp only [lnv]; omega)) only [wlk, ↓get_put', ↓reduceIte, seval]
  · simp (disch := first | omega | (simp only [lnv]; omega)) only [wlk, ↓get_put', ↓reduceIte, seval]
  · simp (disch := first | omega | (simp only [lnv]; omega)) only [wlk, ↓get_put', ↓reduceIte, seval]
  · rw [List.flatMap_append]; simpa using b5
  · rcases ho q hq with h1 | h1
    · exact own q h1
    · have := st3.next; have := t4.next; omega
end Go.Proofs.Ytiingkpdodbldaa

set_option maxRecDepth 1000000
set_option linter.all false
namespace Go.Proofs.Ytiingkpdodbldaa
open Go Go.Ev
noncomputable abbrev s10_0 : CC := (CC.seq (CC.region [(wB 21 (doMove (tm 5))), (wB 2 (doMove (O.c (V.s 0 0)))), (wB 3 (doMove (tm 21)))]) CC.ret)
noncomputable abbrev s10_1 : CC := (CC.cond (tm 20) s10_0 CC.skip)
noncomputable abbrev s10_2 : CC := (CC.seq (CC.region [(wB 19 (doMove (tm 5))), (wB 20 (bin2 fNeq (tm 19) (oN 0)))]) s10_1)
noncomputable abbrev s10_3 : CC := (CC.seq (CC.region [(wB 15 (doMove (tm 0))), (wB 16 (doCall 32 [(tm 15)])), (wB 14 (doMove (tm 16))), (wB 17 (doExtract 0 (tm 14))), (wB 18 (doExtract 1 (tm 14))), (wB 4 (doMove (tm 17))), (wB 5 (doMove (tm 18)))]) s10_2)
noncomputable abbrev s10_4 : CC := (CC.cond (tm 34) CC.skip (CC.exit 0))
noncomputable abbrev s10_5 : CC := (CC.seq (CC.region [(wB 31 (doMove (tm 9))), (wB 32 (doMove (tm 6))), (wB 33 (doLen (tm 32))), (wB 34 (bin2 fLss (tm 31) (tm 33)))]) s10_4)
noncomputable abbrev s10_6 : CC := (CC.draws [(uB 48 (doMove (tm 8))), (uB 49 (doMove (tm 10))), (uB 50 (doLenS (tm 49))), (uB 51 (doCall 33 [(tm 50)])), (uB 52 (doConcat (tm 48) (tm 51))), (uB 53 (doMove (tm 6))), (uB 54 (doMove (tm 9))), (uB 55 (doIndexAddr 1 (tm 53) (tm 54))), (uB 56 (doLoad (tm 55))), (uB 57 (doIndexAddr 4 (tm 56) (oN 0))), (uB 58 (doFieldAddr 0 (tm 57))), (uB 59 (doLoad (tm 58))), (uB 60 (doCall 34 [(tm 59)])), (uB 61 (doConcat (tm 52) (tm 60))), (uB 62 (doMove (tm 6))), (uB 63 (doMove (tm 9))), (uB 64 (doIndexAddr 1 (tm 62) (tm 63))), (uB 65 (doLoad (tm 64))), (uB 66 (doMove (tm 6))), (uB 67 (doMove (tm 9))), (uB 68 (doIndexAddr 1 (tm 66) (tm 67))), (uB 69 (doLoad (tm 68))), (uB 70 (doLen (tm 69))), (uB 71 (bin2 fSub (tm 70) (oN 1))), (uB 72 (doIndexAddr 4 (tm 65) (tm 71))), (uB 73 (doFieldAddr 0 (tm 72))), (uB 74 (doLoad (tm 73))), (wB 75 (doCall 34 [(tm 74)])), (uB 76 (doConcat (tm 61) (tm 75))), (uB 8 (doMove (tm 76)))])
noncomputable abbrev s10_7 : CC := (CC.seq (CC.region [(wB 45 (doMove (tm 7))), (wB 46 (doMove (tm 10))), (wB 47 (doConcat (tm 45) (tm 46))), (wB 7 (doMove (tm 47)))]) s10_6)
noncomputable abbrev s10_8 : CC := (CC.seq (CC.region [(wB 38 (doMove (tm 6))), (wB 39 (doMove (tm 9))), (wB 40 (doIndexAddr 1 (tm 38) (tm 39))), (wB 41 (doLoad (tm 40))), (wB 42 (doCall 32 [(tm 41)])), (wB 37 (doMove (tm 42))), (wB 43 (doExtract 0 (tm 37))), (wB 44 (doExtract 1 (tm 37))), (wB 10 (doMove (tm 43))), (wB 11 (doMove (tm 44)))]) s10_7)
noncomputable abbrev s10_9 : CC := (CC.block 1 s10_8)
noncomputable abbrev s10_10 : CC := (CC.region [(wB 35 (doMove (tm 9))), (wB 36 (bin2 fAdd (tm 35) (oN 1))), (wB 9 (doMove (tm 36)))])
noncomputable abbrev s10_11 : CC := (CC.seq s10_9 s10_10)
noncomputable abbrev l10_0 : CC := (CC.seq s10_5 s10_11)
noncomputable abbrev s10_12 : CC := (CC.loop l10_0)
noncomputable abbrev s10_13 : CC := (CC.block 0 s10_12)
noncomputable abbrev s10_14 : CC := (CC.seq (CC.region [(wB 9 (doMove (oN 0)))]) s10_13)
noncomputable abbrev s10_15 : CC := (CC.cond (tm 80) CC.skip (CC.exit 2))
noncomputable abbrev s10_16 : CC := (CC.seq (CC.region [(wB 77 (doMove (tm 13))), (wB 78 (doMove (tm 0))), (wB 79 (doLen (tm 78))), (wB 80 (bin2 fLss (tm 77) (tm 79)))]) s10_15)
noncomputable abbrev s10_17 : CC := (CC.region [(wB 99 (doMove (tm 12))), (wB 100 (doMove (tm 0))), (wB 101 (doMove (tm 13))), (wB 102 (doIndexAddr 4 (tm 100) (tm 101))), (wB 103 (doFieldAddr 0 (tm 102))), (wB 104 (doLoad (tm 103))), (wB 105 (doBuildSlice 9 1 [(V.s 0 0)] [(Pt.mk 0 1 (tm 104))])), (wB 106 (doAppend 9 1 (tm 99) (tm 105))), (wB 12 (doMove (tm 106)))])
noncomputable abbrev s10_18 : CC := (CC.cond (tm 98) s10_17 CC.skip)
noncomputable abbrev s10_19 : CC := (CC.seq (CC.draws [(uB 83 (doMove (tm 13))), (uB 84 (bin2 fEql (tm 83) (oN 0))), (uB 85 (doMove (tm 84))), (uG 85 false 86 (doMove (tm 0))), (uG 85 false 87 (doMove (tm 13))), (uG 85 false 88 (bin2 fSub (tm 87) (oN 1))), (uG 85 false 89 (doIndexAddr 4 (tm 86) (tm 88))), (uG 85 false 90 (doFieldAddr 0 (tm 89))), (uG 85 false 91 (doLoad (tm 90))), (uG 85 false 92 (doMove (tm 0))), (uG 85 false 93 (doMove (tm 13))), (uG 85 false 94 (doIndexAddr 4 (tm 92) (tm 93))), (uG 85 false 95 (doFieldAddr 0 (tm 94))), (uG 85 false 96 (doLoad (tm 95))), (uG 85 false 97 (doSCmp (fun a b c d => !eqS a b c d) (tm 91) (tm 96))), (uB 98 (doPick (tm 85) (O.c (V.b Bool.true)) (tm 97)))]) s10_18)
noncomputable abbrev s10_20 : CC := (CC.block 3 s10_19)
noncomputable abbrev s10_21 : CC := (CC.region [(wB 81 (doMove (tm 13))), (wB 82 (bin2 fAdd (tm 81) (oN 1))), (wB 13 (doMove (tm 82)))])
noncomputable abbrev s10_22 : CC := (CC.seq s10_20 s10_21)
noncomputable abbrev l10_1 : CC := (CC.seq s10_16 s10_22)
noncomputable abbrev s10_23 : CC := (CC.loop l10_1)
noncomputable abbrev s10_24 : CC := (CC.block 2 s10_23)
noncomputable abbrev s10_25 : CC := (CC.seq (CC.region [(wB 13 (doMove (oN 0)))]) s10_24)
noncomputable abbrev s10_26 : CC := (CC.seq (CC.region [(wB 107 (doMove (tm 7))), (wB 108 (doMove (tm 8))), (wB 109 (doCall 35 [(tm 108)])), (wB 110 (doConcat (tm 107) (tm 109))), (wB 111 (doMove (tm 12))), (wB 112 (doCall 36 [(tm 111)])), (wB 113 (doCall 35 [(tm 112)])), (wB 114 (doConcat (tm 110) (tm 113))), (wB 115 (doMove (tm 7))), (wB 116 (doLenS (tm 115))), (wB 117 (doCall 37 [(tm 116)])), (wB 118 (doConcat (tm 114) (tm 117))), (wB 2 (doMove (tm 118))), (wB 3 (doMove (oN 0)))]) CC.ret)
noncomputable abbrev s10_27 : CC := (CC.seq s10_25 s10_26)
noncomputable abbrev s10_28 : CC := (CC.seq (CC.region [(wB 12 (doMove (O.c V.l0)))]) s10_27)
noncomputable abbrev s10_29 : CC := (CC.seq s10_14 s10_28)
noncomputable abbrev s10_30 : CC := (CC.seq (CC.region [(wB 24 (doMove (tm 0))), (wB 25 (doLen (tm 24))), (wB 26 (doCall 33 [(tm 25)])), (wB 27 (doMove (tm 6))), (wB 28 (doLen (tm 27))), (wB 29 (doCall 33 [(tm 28)])), (wB 30 (doConcat (tm 26) (tm 29))), (wB 7 (doMove (O.c (V.s 0 0)))), (wB 8 (doMove (tm 30)))]) s10_29)
noncomputable abbrev s10_31 : CC := (CC.seq (CC.region [(wB 22 (doMove (tm 0))), (wB 23 (doCall 21 [(tm 22)])), (wB 6 (doMove (tm 23)))]) s10_30)
noncomputable abbrev s10_32 : CC := (CC.seq s10_3 s10_31)
noncomputable abbrev b10 : CC := (CC.seq (CC.region [(wB 2 (doMove (O.c (V.s 0 0)))), (wB 3 (doMove (oN 0)))]) s10_32)
noncomputable abbrev s8_0 : CC := (CC.cond (tm 7) CC.skip (CC.exit 0))
noncomputable abbrev s8_1 : CC := (CC.seq (CC.region [(wB 4 (doMove (tm 3))), (wB 5 (doMove (tm 0))), (wB 6 (doLen (tm 5))), (wB 7 (bin2 fLss (tm 4) (tm 6)))]) s8_0)
noncomputable abbrev s8_2 : CC := (CC.seq (CC.region [(wB 2 (doMove (O.c (V.b Bool.false))))]) CC.ret)
noncomputable abbrev s8_3 : CC := (CC.cond (tm 25) s8_2 CC.skip)
noncomputable abbrev s8_4 : CC := (CC.seq (CC.region [(wB 10 (doMove (tm 0))), (wB 11 (doMove (tm 3))), (wB 12 (doIndexAddr 4 (tm 10) (tm 11))), (wB 13 (doFieldAddr 0 (tm 12))), (wB 14 (doLoad (tm 13))), (wB 15 (doLenS (tm 14))), (wB 16 (bin2 fGtr (tm 15) (oN 20))), (wB 17 (doMove (tm 16))), (wG 17 false 18 (doMove (tm 0))), (wG 17 false 19 (doMove (tm 3))), (wG 17 false 20 (doIndexAddr 4 (tm 18) (tm 19))), (wG 17 false 21 (doFieldAddr 3 (tm 20))), (wG 17 false 22 (doLoad (tm 21))), (wG 17 false 23 (doLenS (tm 22))), (wG 17 false 24 (bin2 fGtr (tm 23) (oN 40))), (wB 25 (doPick (tm 17) (O.c (V.b Bool.true)) (tm 24)))]) s8_3)
noncomputable abbrev s8_5 : CC := (CC.block 1 s8_4)
noncomputable abbrev s8_6 : CC := (CC.region [(wB 8 (doMove (tm 3))), (wB 9 (bin2 fAdd (tm 8) (oN 1))), (wB 3 (doMove (tm 9)))])
noncomputable abbrev s8_7 : CC := (CC.seq s8_5 s8_6)
noncomputable abbrev l8_0 : CC := (CC.seq s8_1 s8_7)
noncomputable abbrev s8_8 : CC := (CC.loop l8_0)
noncomputable abbrev s8_9 : CC := (CC.block 0 s8_8)
noncomputable abbrev s8_10 : CC := (CC.seq (CC.region [(wB 3 (doMove (oN 0)))]) s8_9)
noncomputable abbrev s8_11 : CC := (CC.seq (CC.region [(wB 26 (doMove (tm 0))), (wB 27 (doLen (tm 26))), (wB 28 (bin2 fLeq (tm 27) (oN 60))), (wB 2 (doMove (tm 28)))]) CC.ret)
noncomputable abbrev s8_12 : CC := (CC.seq s8_10 s8_11)
noncomputable abbrev b8 : CC := (CC.seq (CC.region [(wB 2 (doMove (O.c (V.b Bool.false))))]) s8_12)
theorem c8 : compFn Try.prog 8 = ⟨29, b8, [(Rs.tmp (slOf 2))]⟩ := by kernel_rfl
end Go.Proofs.Ytiingkpdodbldaa

set_option maxRecDepth 100000
set_option maxHeartbeats 8000000
set_option linter.all false
namespace Go.Proofs.Ytiingkpdodbldaa
open Go Go.Ev
theorem fp_sw {n : Nat} {x : V} (w : SwN n x) {P : Program} {off : Nat} {ps : List Pt} {t : F} {z : List V} {e : Option (Nat × Nat)} {h : H} {N : Nx} : FP P off 1 x ps t z e h N = if off + 1 ≤ z.length then FL P ps t (z.take off ++ (x :: z.drop (off + 1))) e h N else FPJ P off 1 x ps t z e h N := by
  rcases w with rfl | ⟨_, _, _, _, _, _, rfl, _⟩
  · exact fp_l0
  · exact fp_l
end Go.Proofs.Ytiingkpdodbldaa

set_option maxRecDepth 100000
set_option maxHeartbeats 8000000
set_option linter.all false
namespace Go.Proofs.Ytiingkpdodbldaa
open Go Go.Ev
theorem takeIndex_ok {h : H} {ix bl : List UInt8} (hi : ix.length ≤ 300000) (hb : bl.length ≤ 1000000) (hf : B.val h.floor ≤ B.val h.next) : FnOk Try.prog 41 [sv ix, sv bl] h fun y h' =>
    ∃ (c : Nat) (v : V) (ok : Bool) (ps : List Pc), y = .tu [.i .i64 (c : Int), v, .b ok] ∧ c ≤ 9223372036854775807 ∧ Ps h' v ps ∧ SwN 3 v ∧ Stay nowhere h h' ∧ ∀ L, okB L → L.length ≤ 100 → ix = idxB L → bl = bodyT (blksE L) → ok = true ∧ c = L.length ∧ ps = (blksE L).map pcOf := by
  refine fn_go c41 (by intro hb; cases hb) (by simp) (by simp) fun Q hQ => ?_
  simp only [slotsF, Nat.reduceAdd]
  repeat' (first
    | refine St.h ?_
    | simp (disch := first | omega | (simp only [lnv]; omega)) only [wlk, ↓get_put', ↓reduceIte, seval]
    | (with_reducible (first | apply cd_split | apply gd_split)) <;> (intro hc; (try simp only [hcn] at hc); (try simp only [hc]); (try simp only [hcl] at hc); try omega))
  have bad : ∀ g, Stay nowhere h g → (∀ L, okB L → L.length ≤ 100 → ix = idxB L → bl = bodyT (blksE L) → False) → ∃ (c : Nat) (v : V) (ok : Bool) (ps : List Pc), V.tu [.i .i64 0, .l0, .b false] = .tu [.i .i64 (c : Int), v, .b ok] ∧ c ≤ 9223372036854775807 ∧ Ps g v ps ∧ SwN 3 v ∧ Stay nowhere h g ∧ ∀ L, okB L → L.length ≤ 100 → ix = idxB L → bl = bodyT (blksE L) → ok = true ∧ c = L.length ∧ ps = (blksE L).map pcOf :=
    fun g sg no => ⟨0, .l0, false, [], rfl, by omega, Ss.nil, .inl rfl, sg, fun L h1 h2 h3 h4 => (no L h1 h2 h3 h4).elim⟩
  refine CL.pure (takeNum_ok (by omega)) ?_
  have hn1 : ∀ L, okB L → L.length ≤ 100 → ix = idxB L → takeN ix = ((L.length : Int), ((numB L.length).length : Int), 0) ∧ takeN (ix.drop (numB L.length).length) = (((blksE L).length : Int), ((numB (blksE L).length).length : Int), 0) ∧ ix.drop ((numB L.length).length + (numB (blksE L).length).length) = idxT (blksE L) := fun L h1 h2 h3 => by
    have h4 := blksE_len L
    have e : ix = numB L.length ++ (numB (blksE L).length ++ idxT (blksE L)) := by rw [h3]; unfold idxB idxT; rw [List.append_assoc]
    refine ⟨by rw [e]; exact takeN_numB (by omega) _, by rw [e, List.drop_left]; exact takeN_numB (by omega) _, by rw [e, ← List.drop_drop, List.drop_left, List.drop_left]⟩
  rcases takeN_range ix with hN' | ⟨n, k, hN, n1', k1, k2, k3⟩
  · obtain ⟨f, hN, hfn⟩ : ∃ f, takeN ix = (0, 0, f) ∧ f ≠ 0 := by
      rcases hN' with h | h
      · exact ⟨_, h, by omega⟩
      · exact ⟨_, h, by omega⟩
    rw [hN]; unfold tri
    have hz : (f = 0) = False := eq_false hfn
    repeat' (first
      | refine St.h ?_
      | simp (disch := first | omega | (simp only [lnv]; omega)) only [wlk, ↓get_put', ↓reduceIte, seval, hz]
      | (with_reducible (first | apply cd_split | apply gd_split)) <;> (intro hc; (try simp only [hcn] at hc); (try simp only [hc]); (try simp only [hcl] at hc); try omega))
    subst hQ
    refine bad _ (Stay.refl _ _) fun L h1 h2 h3 h4 => ?_
    have := (hn1 L h1 h2 h3).1
    rw [hN] at this
    exact hfn (Prod.mk.inj (Prod.mk.inj this).2).2
  rw [hN]; unfold tri
  have hdl : (ix.drop k).length = ix.length - k := List.length_drop
  have hn2 : ∀ L, okB L → L.length ≤ 100 → ix = idxB L → n = L.length ∧ k = (numB L.length).length := fun L h1 h2 h3 => by
    have := (hn1 L h1 h2 h3).1
    rw [hN] at this
    exact ⟨Int.ofNat.inj (Prod.mk.inj this).1, Int.ofNat.inj (Prod.mk.inj (Prod.mk.inj this).2).1⟩
  repeat' (first
    | refine St.h ?_
    | simp (disch := first | omega | (simp only [lnv]; omega)) only [wlk, ↓get_put', ↓reduceIte, seval, Int.toNat_natCast]
    | (with_reducible (first | apply cd_split | apply gd_split)) <;> (intro hc; (try simp only [hcn] at hc); (try simp only [hc]); (try simp only [hcl] at hc); try omega))
  refine CL.pure (takeNum_ok (by omega)) ?_
  rcases takeN_range (ix.drop k) with hN2' | ⟨n2, k', hN2, n12, k12, k22, k32⟩
  · obtain ⟨f, hN2, hfn⟩ : ∃ f, takeN (ix.drop k) = (0, 0, f) ∧ f ≠ 0 := by
      rcases hN2' with h | h
      · exact ⟨_, h, by omega⟩
      · exact ⟨_, h, by omega⟩
    rw [hN2]; unfold tri
    have hz : (f = 0) = False := eq_false hfn
    repeat' (first
      | refine St.h ?_
      | simp (disch := first | omega | (simp only [lnv]; omega)) only [wlk, ↓get_put', ↓reduceIte, seval, hz]
      | (with_reducible (first | apply cd_split | apply gd_split)) <;> (intro hc; (try simp only [hcn] at hc); (try simp only [hc]); (try simp only [hcl] at hc); try omega))
    subst hQ
    refine bad _ (Stay.refl _ _) fun L h1 h2 h3 h4 => ?_
    have := (hn1 L h1 h2 h3).2.1
    rw [← (hn2 L h1 h2 h3).2, hN2] at this
    exact hfn (Prod.mk.inj (Prod.mk.inj this).2).2
  rw [hN2]; unfold tri
  have hn3 : ∀ L, okB L → L.length ≤ 100 → ix = idxB L → n2 = (blksE L).length ∧ k' = (numB (blksE L).length).length := fun L h1 h2 h3 => by
    have := (hn1 L h1 h2 h3).2.1
    rw [← (hn2 L h1 h2 h3).2, hN2] at this
    exact ⟨Int.ofNat.inj (Prod.mk.inj this).1, Int.ofNat.inj (Prod.mk.inj (Prod.mk.inj this).2).1⟩
  have hkk : ((k : Int) + (k' : Int)) = ((k + k' : Nat) : Int) := by omega
  have hdl2 : (ix.drop (k + k')).length = ix.length - (k + k') := List.length_drop
  repeat' (first
    | refine St.h ?_
    | simp (disch := first | omega | (simp only [lnv]; omega)) only [wlk, ↓get_put', ↓reduceIte, seval, hkk, Int.toNat_natCast]
    | (with_reducible (first | apply cd_split | apply gd_split)) <;> (intro hc; (try simp only [hcn] at hc); (try simp only [hc]); (try simp only [hcl] at hc); try omega))
  refine CL.mk (takePieces_ok (by omega) hb hf) ?_
  rintro _ h1 ⟨v, ok, ps, rfl, hps, hw, hpl, s1, hla⟩
  have hall : ∀ L, okB L → L.length ≤ 100 → ix = idxB L → bl = bodyT (blksE L) → ok = true ∧ n = L.length ∧ n2 = (blksE L).length ∧ ps = (blksE L).map pcOf := fun L h1 h2 h3 h4 => by
    obtain ⟨a1, a2⟩ := hn2 L h1 h2 h3
    obtain ⟨a3, a4⟩ := hn3 L h1 h2 h3
    have := hla (blksE L) (chn_blks h1 h2) (by rw [a2, a4]; exact (hn1 L h1 h2 h3).2.2) h4
    exact ⟨this.1, a1, a3, this.2⟩
  cases ok with
  | false =>
    repeat' (first
      | refine St.h ?_
      | simp (disch := first | omega | (simp only [lnv]; omega)) only [wlk, ↓get_put', ↓reduceIte, seval]
      | (with_reducible (first | apply cd_split | apply gd_split)) <;> (intro hc; (try simp only [hcn] at hc); (try simp only [hc]); (try simp only [hcl] at hc); try omega))
    subst hQ
    exact bad _ s1 fun L h1 h2 h3 h4 => by have := (hall L h1 h2 h3 h4).1; cases this
  | true =>
  repeat' (first
    | refine St.h ?_
    | simp (disch := first | omega | (simp only [lnv]; omega)) only [wlk, ↓get_put', ↓reduceIte, seval, hps.ln]
    | (with_reducible (first | apply cd_split | apply gd_split)) <;> (intro hc; (try simp only [hcn] at hc); (try simp only [hc]); (try simp only [hcl] at hc); try omega))
  · subst hQ
    refine bad _ s1 fun L h1 h2 h3 h4 => ?_
    have := (hall L h1 h2 h3 h4).2.2.1
    have := blksE_pos h1.2.1
    omega
  · subst hQ
    refine bad _ s1 fun L h1 h2 h3 h4 => ?_
    obtain ⟨_, a1, a2, a3⟩ := hall L h1 h2 h3 h4
    have := congrArg List.length a3
    rw [List.length_map] at this
    have := blksE_len L
    omega
  · subst hQ
    refine bad _ s1 fun L h1 h2 h3 h4 => ?_
    obtain ⟨_, a1, a2, a3⟩ := hall L h1 h2 h3 h4
    have := congrArg List.length a3
    rw [List.length_map] at this
    have := blksE_len L
    omega
  · subst hQ
    exact ⟨n, v, true, ps, rfl, by omega, hps, hw, s1, fun L h1 h2 h3 h4 => by
      obtain ⟨a0, a1, a2, a3⟩ := hall L h1 h2 h3 h4
      exact ⟨rfl, a1, a3⟩⟩
/-- a table, as it lies -/
structure Tb (h : H) (p : B) (L : List Ent) : Prop where
  at' : ∃ v, Row h p 0 0 [.i .i64 (L.length : Int), v, sv (sieveB (keysE L))] ∧ B.val p < B.val h.next ∧ Ps h v ((blksE L).map pcOf) ∧ SwN 3 v
def tp (p : B) : V := .p p 0 0 3
theorem Tb.grow {h h' : H} {p : B} {L : List Ent} (T : Tb h p L) (s : Stay nowhere h h') : Tb h' p L := by
  obtain ⟨v, a1, a2, a3, a4⟩ := T.at'
  exact ⟨v, a1.grow s a2, Nat.lt_of_lt_of_le a2 s.next, a3.grow s, a4⟩
theorem splT_cases (s : List UInt8) : (splT s = ([], [], 12)) ∨ ∃ a b, splT s = (a, b, 0) ∧ 4 ≤ s.length ∧ a.length ≤ s.length ∧ b.length ≤ s.length := by
  unfold splT
  split
  · exact .inl rfl
  · split
    · exact .inl rfl
    · exact .inr ⟨_, _, rfl, by omega, by rw [List.length_take]; omega, by rw [List.length_drop, List.length_take]; omega⟩
theorem tab_parts {L : List Ent} (h : okB L) (hl : L.length ≤ 100) : splT (tabB L) = (bodyT (blksE L), sealB (idxB L) ++ sealB (sieveB (keysE L)), 0) := by
  have hbt := bodyT_len (blksE_ne (L := L)) (by rw [blksE_flat]; omega)
  rw [blksE_flat] at hbt
  unfold tabB
  rw [List.append_assoc (bodyT (blksE L))]
  exact splT_made rfl (by omega)
theorem tab_lens {L : List Ent} (h : okB L) (hl : L.length ≤ 100) : (idxB L).length ≤ 5400 ∧ (sieveB (keysE L)).length = max 8 (keysE L).length ∧ (keysE L).length ≤ L.length := by
  have hbl := blksE_len L
  have hil := idxU_len h (by omega) (blksE L).length (by omega)
  rw [idxU_all] at hil
  exact ⟨by omega, sieveB_len _, keysU_len L L.length⟩
theorem topen_ok {h : H} {s : List UInt8} (hs : s.length ≤ 300000) (hf : B.val h.floor ≤ B.val h.next) : FnOk Try.prog 11 [sv s] h fun y h' => Stay nowhere h h' ∧
    ((∃ e : Int, y = .tu [.p0, .i .i64 e] ∧ (e = 10 ∨ e = 12 ∨ e = 13) ∧ (s.length < 4 → e = 12) ∧ ∀ L, okB L → L.length ≤ 100 → s ≠ tabB L) ∨ (∃ p, y = .tu [tp p, .i .i64 0] ∧ 4 ≤ s.length ∧ ∀ L, okB L → L.length ≤ 100 → s = tabB L → Tb h' p L)) := by
  refine fn_go c11 (by intro hb; cases hb) (by simp) (by simp) fun Q hQ => ?_
  simp only [slotsF, Nat.reduceAdd]
  repeat' (first
    | refine St.h ?_
    | simp (disch := first | omega | (simp only [lnv]; omega)) only [wlk, ↓get_put', ↓reduceIte, seval]
    | (with_reducible (first | apply cd_split | apply gd_split)) <;> (intro hc; (try simp only [hcn] at hc); (try simp only [hc]); (try simp only [hcl] at hc); try omega))
  refine CL.stay (clone_ok (by omega) hf) fun h1 s1 => ?_
  have hf1 := s1.fl hf
  repeat' (first
    | refine St.h ?_
    | simp (disch := first | omega | (simp only [lnv]; omega)) only [wlk, ↓get_put', ↓reduceIte, seval]
    | (with_reducible (first | apply cd_split | apply gd_split)) <;> (intro hc; (try simp only [hcn] at hc); (try simp only [hc]); (try simp only [hcl] at hc); try omega))
  refine CL.pure (split_ok (by omega)) ?_
  rcases splT_cases s with hS | ⟨A, C, hS, h4, hA, hC⟩
  · rw [hS]
    repeat' (first
      | refine St.h ?_
      | simp (disch := first | omega | (simp only [lnv]; omega)) only [wlk, ↓get_put', ↓reduceIte, seval]
      | (with_reducible (first | apply cd_split | apply gd_split)) <;> (intro hc; (try simp only [hcn] at hc); (try simp only [hc]); (try simp only [hcl] at hc); try omega))
    subst hQ
    refine ⟨s1, .inl ⟨12, rfl, .inr (.inl rfl), fun _ => rfl, fun L a1 a2 a3 => ?_⟩⟩
    have := tab_parts a1 a2
    rw [← a3, hS] at this
    have := (Prod.mk.inj (Prod.mk.inj this).2).2
    cases this
  rw [hS]
  have hp : ∀ L, okB L → L.length ≤ 100 → s = tabB L → A = bodyT (blksE L) ∧ C = sealB (idxB L) ++ sealB (sieveB (keysE L)) := fun L a1 a2 a3 => by
    have := tab_parts a1 a2
    rw [← a3, hS] at this
    exact ⟨(Prod.mk.inj this).1, (Prod.mk.inj (Prod.mk.inj this).2).1⟩
  repeat' (first
    | refine St.h ?_
    | simp (disch := first | omega | (simp only [lnv]; omega)) only [wlk, ↓get_put', ↓reduceIte, seval]
    | (with_reducible (first | apply cd_split | apply gd_split)) <;> (intro hc; (try simp only [hcn] at hc); (try simp only [hc]); (try simp only [hcl] at hc); try omega))
  refine CL.stay (open_ok (by omega) hf1) fun h2 s2 => ?_
  have hf2 := s2.fl hf1
  have s02 := s1.trans s2
  have ho1 : ∀ L, okB L → L.length ≤ 100 → s = tabB L → openB C = (idxB L, ((sealB (idxB L)).length : Int), 0) ∧ openB (C.drop (sealB (idxB L)).length) = (sieveB (keysE L), ((sealB (sieveB (keysE L))).length : Int), 0) := fun L a1 a2 a3 => by
    obtain ⟨b1, b2⟩ := hp L a1 a2 a3
    obtain ⟨c1, c2, c3⟩ := tab_lens a1 a2
    refine ⟨by rw [b2]; exact openB_seal (by omega), ?_⟩
    rw [b2, List.drop_left]
    have := openB_seal (l := sieveB (keysE L)) (more := []) (by omega)
    rwa [List.append_nil] at this
  have err : ∀ (e : Int), (e = 12 ∨ e = 13) → openB C = ([], 0, e) → ∀ L, okB L → L.length ≤ 100 → s ≠ tabB L := fun e he ho L a1 a2 a3 => by
    have := (ho1 L a1 a2 a3).1
    rw [ho] at this
    have := (Prod.mk.inj (Prod.mk.inj this).2).2
    omega
  unfold opn
  rcases openB_range C with hO | hO | ⟨X, n, hO, n1, n2, n3⟩
  · rw [hO]
    repeat' (first
      | refine St.h ?_
      | simp (disch := first | omega | (simp only [lnv]; omega)) only [wlk, ↓get_put', ↓reduceIte, seval]
      | (with_reducible (first | apply cd_split | apply gd_split)) <;> (intro hc; (try simp only [hcn] at hc); (try simp only [hc]); (try simp only [hcl] at hc); try omega))
    subst hQ
    exact ⟨s02, .inl ⟨12, rfl, .inr (.inl rfl), fun _ => rfl, err 12 (.inl rfl) hO⟩⟩
  · rw [hO]
    repeat' (first
      | refine St.h ?_
      | simp (disch := first | omega | (simp only [lnv]; omega)) only [wlk, ↓get_put', ↓reduceIte, seval]
      | (with_reducible (first | apply cd_split | apply gd_split)) <;> (intro hc; (try simp only [hcn] at hc); (try simp only [hc]); (try simp only [hcl] at hc); try omega))
    subst hQ
    exact ⟨s02, .inl ⟨13, rfl, .inr (.inr rfl), fun h => by omega, err 13 (.inr rfl) hO⟩⟩
  rw [hO]
  have hx : ∀ L, okB L → L.length ≤ 100 → s = tabB L → X = idxB L ∧ n = (sealB (idxB L)).length := fun L a1 a2 a3 => by
    have := (ho1 L a1 a2 a3).1
    rw [hO] at this
    exact ⟨(Prod.mk.inj this).1, Int.ofNat.inj (Prod.mk.inj (Prod.mk.inj this).2).1⟩
  have hdl : (C.drop n).length = C.length - n := List.length_drop
  repeat' (first
    | refine St.h ?_
    | simp (disch := first | omega | (simp only [lnv]; omega)) only [wlk, ↓get_put', ↓reduceIte, seval, Int.toNat_natCast]
    | (with_reducible (first | apply cd_split | apply gd_split)) <;> (intro hc; (try simp only [hcn] at hc); (try simp only [hc]); (try simp only [hcl] at hc); try omega))
  refine CL.stay (open_ok (by omega) hf2) fun h3 s3 => ?_
  have hf3 := s3.fl hf2
  have s03 := s02.trans s3
  have err2 : ∀ (e : Int), (e = 12 ∨ e = 13) → openB (C.drop n) = ([], 0, e) → ∀ L, okB L → L.length ≤ 100 → s ≠ tabB L := fun e he ho L a1 a2 a3 => by
    have := (ho1 L a1 a2 a3).2
    rw [← (hx L a1 a2 a3).2, ho] at this
    have := (Prod.mk.inj (Prod.mk.inj this).2).2
    omega
  unfold opn
  rcases openB_range (C.drop n) with hU | hU | ⟨Y, m, hU, m1, m2, m3⟩
  · rw [hU]
    repeat' (first
      | refine St.h ?_
      | simp (disch := first | omega | (simp only [lnv]; omega)) only [wlk, ↓get_put', ↓reduceIte, seval]
      | (with_reducible (first | apply cd_split | apply gd_split)) <;> (intro hc; (try simp only [hcn] at hc); (try simp only [hc]); (try simp only [hcl] at hc); try omega))
    subst hQ
    exact ⟨s03, .inl ⟨12, rfl, .inr (.inl rfl), fun _ => rfl, err2 12 (.inl rfl) hU⟩⟩
  · rw [hU]
    repeat' (first
      | refine St.h ?_
      | simp (disch := first | omega | (simp only [lnv]; omega)) only [wlk, ↓get_put', ↓reduceIte, seval]
      | (with_reducible (first | apply cd_split | apply gd_split)) <;> (intro hc; (try simp only [hcn] at hc); (try simp only [hc]); (try simp only [hcl] at hc); try omega))
    subst hQ
    exact ⟨s03, .inl ⟨13, rfl, .inr (.inr rfl), fun h => by omega, err2 13 (.inr rfl) hU⟩⟩
  rw [hU]
  have hy : ∀ L, okB L → L.length ≤ 100 → s = tabB L → Y = sieveB (keysE L) ∧ m = (sealB (sieveB (keysE L))).length := fun L a1 a2 a3 => by
    have := (ho1 L a1 a2 a3).2
    rw [← (hx L a1 a2 a3).2, hU] at this
    exact ⟨(Prod.mk.inj this).1, Int.ofNat.inj (Prod.mk.inj (Prod.mk.inj this).2).1⟩
  repeat' (first
    | refine St.h ?_
    | simp (disch := first | omega | (simp only [lnv]; omega)) only [wlk, ↓get_put', ↓reduceIte, seval]
    | (with_reducible (first | apply cd_split | apply gd_split)) <;> (intro hc; (try simp only [hcn] at hc); (try simp only [hc]); (try simp only [hcl] at hc); try omega))
  refine CL.mk (takeIndex_ok (by omega) (by omega) hf3) ?_
  rintro _ h4' ⟨c, v, ok, ps, rfl, hc1, hps, hw, s4, hla⟩
  have hf4 := s4.fl hf3
  have s04 := s03.trans s4
  have hall : ∀ L, okB L → L.length ≤ 100 → s = tabB L → ok = true ∧ c = L.length ∧ ps = (blksE L).map pcOf ∧ 8 ≤ Y.length ∧ Y.length ≤ max 8 c ∧ n + m = C.length ∧ Y = sieveB (keysE L) := fun L a1 a2 a3 => by
    obtain ⟨b1, b2⟩ := hp L a1 a2 a3
    obtain ⟨b3, b4⟩ := hx L a1 a2 a3
    obtain ⟨b5, b6⟩ := hy L a1 a2 a3
    obtain ⟨c1, c2, c3⟩ := tab_lens a1 a2
    obtain ⟨d1, d2, d3⟩ := hla L a1 a2 b3 b1
    refine ⟨d1, d2, d3, by rw [b5]; omega, by rw [b5]; omega, by rw [b2, b4, b6, List.length_append], b5⟩
  have bad : (∀ L, okB L → L.length ≤ 100 → s = tabB L → False) → Stay nowhere h h4' ∧
    ((∃ e : Int, V.tu [.p0, .i .i64 10] = .tu [.p0, .i .i64 e] ∧ (e = 10 ∨ e = 12 ∨ e = 13) ∧ (s.length < 4 → e = 12) ∧ ∀ L, okB L → L.length ≤ 100 → s ≠ tabB L) ∨ (∃ p, V.tu [.p0, .i .i64 10] = .tu [tp p, .i .i64 0] ∧ 4 ≤ s.length ∧ ∀ L, okB L → L.length ≤ 100 → s = tabB L → Tb h4' p L)) :=
    fun no => ⟨s04, .inl ⟨10, rfl, .inl rfl, fun h => by omega, fun L a1 a2 a3 => no L a1 a2 a3⟩⟩
  cases ok with
  | false =>
    repeat' (first
      | refine St.h ?_
      | simp (disch := first | omega | (simp only [lnv]; omega)) only [wlk, ↓get_put', ↓reduceIte, seval]
      | (with_reducible (first | apply cd_split | apply gd_split)) <;> (intro hc; (try simp only [hcn] at hc); (try simp only [hc]); (try simp only [hcl] at hc); try omega))
    subst hQ
    exact bad fun L a1 a2 a3 => by have := (hall L a1 a2 a3).1; cases this
  | true =>
  have hmx : max (8 : Int) (c : Int) = ((max 8 c : Nat) : Int) := by omega
  repeat' (first
    | refine St.h ?_
    | simp (disch := first | omega | (simp only [lnv]; omega)) only [wlk, ↓get_put', ↓reduceIte, seval, hmx, fp_sw hw]
    | (with_reducible (first | apply cd_split | apply gd_split)) <;> (intro hc; (try simp only [hcn] at hc); (try simp only [hc]); (try simp only [hcl] at hc); try omega))
  iterate 3
    · subst hQ
      exact bad fun L a1 a2 a3 => by have := hall L a1 a2 a3; omega
  refine AL.own (by simp) hf4 fun h5 s5 n5 o5 => ?_
  repeat' (first
    | refine St.h ?_
    | simp (disch := first | omega | (simp only [lnv]; omega)) only [wlk, ↓get_put', ↓reduceIte, seval]
    | (with_reducible (first | apply cd_split | apply gd_split)) <;> (intro hc; (try simp only [hcn] at hc); (try simp only [hc]); (try simp only [hcl] at hc); try omega))
  subst hQ
  refine ⟨s04.trans s5, .inr ⟨_, rfl, h4, fun L a1 a2 a3 => ?_⟩⟩
  obtain ⟨b1, b2, b3, b4, b5, b6, b7⟩ := hall L a1 a2 a3
  subst b2; subst b3; subst b7
  exact ⟨v, o5.row, own_lt' o5, hps.grow s5, hw⟩
end Go.Proofs.Ytiingkpdodbldaa

set_option maxRecDepth 100000
set_option maxHeartbeats 8000000
set_option linter.all false
namespace Go.Proofs.Ytiingkpdodbldaa
open Go Go.Ev
theorem pcs_at {L : List Ent} {i : Nat} (hi : i < (blksE L).length) : ((blksE L).map pcOf).getD i default = pcOf ((blksE L).getD i []) := by simp [List.getD, hi]
end Go.Proofs.Ytiingkpdodbldaa
