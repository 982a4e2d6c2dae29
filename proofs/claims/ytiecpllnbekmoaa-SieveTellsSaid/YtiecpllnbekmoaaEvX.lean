/-
  Texts in walks: what the operations on strings make, by lists of bytes; arrays at a pointer; bytes out of a slice.
-/
import Derived.Test.YtiecpllnbekmoaaEvV
import Derived.Test.YtiecpllnbekmoaaEvW
set_option linter.all false
namespace Go.Ev
open Go

/-- a text, as a value -/
def sv (l : List UInt8) : V := .s l.length (pk l)
theorem sv_nil : V.s 0 0 = sv [] := rfl
theorem sv_inj {a b : List UInt8} (h : sv a = sv b) : a = b := by
  unfold sv at h
  injection h with h1 h2
  exact pk_inj a b h1 h2
theorem vS_sv (l : List UInt8) (k : Nat → Nat → Bool) : vS (sv l) k = k l.length (pk l) := rfl
theorem natK_nn {z : Int} (h : 0 ≤ z) (k : Nat → Bool) : natK z k = k z.toNat := by
  obtain ⟨n, rfl⟩ := Int.eq_ofNat_of_zero_le h
  rfl

/-- a byte, as a value -/
def bv (c : UInt8) : V := .i .u8 (c.toNat : Int)
theorem bv_ofNat (n : Nat) : V.i .u8 ((n % 256 : Nat) : Int) = bv (UInt8.ofNat n) := by
  unfold bv; simp
theorem u8_wrap (n : Nat) : IntKind.u8.wrap (n : Int) = ((n % 256 : Nat) : Int) := by
  simp only [IntKind.wrap, IntKind.bits, IntKind.signed]
  simp
theorem u8_wrapI (n : Int) : IntKind.u8.wrap n = n % 256 := by
  simp only [IntKind.wrap, IntKind.bits, IntKind.signed]
  simp
theorem one_3 (u v w : V) : one [u, v, w] = .tu [u, v, w] := rfl
theorem res_3 (n m o : Nat) (t : F) (h : H) (k : List V → Bool) : resK [Rs.tmp (slOf n), Rs.tmp (slOf m), Rs.tmp (slOf o)] t h k = k [get n t, get m t, get o t] := by
  show forceV (sGet (slOf n) t) (fun v => forceV (sGet (slOf m) t) fun u => forceV (sGet (slOf o) t) fun w => k [v, u, w]) = _
  rw [forceV_eq, forceV_eq, forceV_eq]; rfl

section
variable (cf : CallF) (t : F) (h : H) (k : V → H → Bool) (o x y : O)
noncomputable def catV (a b : V) (k : V → Bool) : Bool := vS a fun la na => vS b fun lb nb => ifK (Nat.ble (Nat.add la lb) 1048576) fun _ => k (.s (Nat.add la lb) (Nat.add (Nat.mul na (Nat.pow 256 lb)) nb))
theorem ev_concat : doConcat x y cf t h k = catV (oV x t) (oV y t) fun v => k v h := by simp only [doConcat, oE_eq, fN_eq]; rfl
theorem catV_sv {a b : List UInt8} (hl : a.length + b.length ≤ 1048576) (k : V → Bool) : catV (sv a) (sv b) k = k (sv (a ++ b)) := by
  have h1 : Nat.ble (Nat.add a.length b.length) 1048576 = true := by rw [Nat.ble_eq]; exact hl
  unfold catV
  rw [vS_sv, vS_sv, h1, ifK_true]
  unfold sv
  rw [List.length_append, pk_append]; rfl

noncomputable def sixV (v : V) (i : Nat) (k : V → Bool) : Bool := vS v fun l n => ifK (Nat.ble (Nat.succ i) l) fun _ => k (.i .u8 (.ofNat (Nat.mod (Nat.div n (Nat.pow 256 (Nat.sub (Nat.sub l 1) i))) 256)))
theorem ev_sindex : doSIndex x y cf t h k = vI (oV y t) fun _ n => natK n fun n => sixV (oV x t) n fun v => k v h := by
  have no : ∀ u : V, (vI u fun _ n => natK n fun _ => false) = false := by
    intro u
    cases u <;> first | rfl | (rename_i kd n; cases n <;> rfl)
  simp only [doSIndex, oE_eq]
  generalize oV x t = v
  generalize oV y t = u
  have hn : ∀ w : V, (∀ k, vS w k = false) → (vI u fun _ n => natK n fun n => sixV w n fun p => k p h) = false := by
    intro w hw
    have : (fun (_ : IntKind) (n : Int) => natK n fun n => sixV w n fun p => k p h) = fun _ n => natK n fun _ => false := by
      funext _ n; congr 1; funext n; exact hw _
    rw [this]; exact no u
  cases v with
  | s l n => simp only [vS_s, fN_eq]; rfl
  | _ => rw [hn _ fun _ => rfl]; rfl
theorem sixV_sv {l : List UInt8} {i : Nat} (hi : i < l.length) (k : V → Bool) : sixV (sv l) i k = k (.i .u8 ((l.getD i 0).toNat : Int)) := by
  have h1 : Nat.ble (Nat.succ i) l.length = true := by rw [Nat.ble_eq]; exact hi
  unfold sixV
  rw [vS_sv, h1, ifK_true]
  have e : l.getD i 0 = l[i] := by simp [List.getD, hi]
  have := pk_get l hi
  rw [e, this]
  rfl

noncomputable def ssV (v : V) (a b : Nat) (k : V → Bool) : Bool := vS v fun l n => ifK (Nat.ble a b) fun _ => ifK (Nat.ble b l) fun _ => k (.s (Nat.sub b a) (Nat.mod (Nat.div n (Nat.pow 256 (Nat.sub l b))) (Nat.pow 256 (Nat.sub b a))))
noncomputable def ssaV (v : V) (a : Nat) (k : V → Bool) : Bool := vS v fun l n => ifK (Nat.ble a l) fun _ => k (.s (Nat.sub l a) (Nat.mod (Nat.div n (Nat.pow 256 (Nat.sub l l))) (Nat.pow 256 (Nat.sub l a))))
theorem no1 (u : V) : (vI u fun _ n => natK n fun _ => false) = false := by
  cases u <;> first | rfl | (rename_i kd n; cases n <;> rfl)
theorem ev_ss2 (a b : O) : doSSlice x (some a) (some b) cf t h k = vI (oV a t) fun _ p => natK p fun p => vI (oV b t) fun _ q => natK q fun q => ssV (oV x t) p q fun v => k v h := by
  simp only [doSSlice, oE_eq]
  have hb : ∀ (o : O) (d : Nat) (k : Nat → Bool), boundK (some o) d t k = vI (oV o t) fun _ n => natK n k := fun o d k => by show oE o t _ = _; rw [oE_eq]
  simp only [hb, fN_eq]
  generalize oV x t = v
  have hn : ∀ w : V, (∀ k, vS w k = false) → (vI (oV a t) fun _ p => natK p fun p => vI (oV b t) fun _ q => natK q fun q => ssV w p q fun v => k v h) = false := by
    intro w hw
    have e2 : ∀ p q, ssV w p q (fun v => k v h) = false := fun p q => hw _
    simp only [e2, no1]
  cases v with
  | s l n => simp only [vS_s]; rfl
  | _ => rw [hn _ fun _ => rfl]; rfl
theorem ev_ss1 (b : O) : doSSlice x none (some b) cf t h k = vI (oV b t) fun _ q => natK q fun q => ssV (oV x t) 0 q fun v => k v h := by
  simp only [doSSlice, oE_eq]
  have hb : ∀ (o : O) (d : Nat) (k : Nat → Bool), boundK (some o) d t k = vI (oV o t) fun _ n => natK n k := fun o d k => by show oE o t _ = _; rw [oE_eq]
  have h0 : ∀ (d : Nat) (k : Nat → Bool), boundK none d t k = k d := fun _ _ => rfl
  simp only [hb, h0, fN_eq]
  generalize oV x t = v
  have hn : ∀ w : V, (∀ k, vS w k = false) → (vI (oV b t) fun _ q => natK q fun q => ssV w 0 q fun v => k v h) = false := by
    intro w hw
    have e2 : ∀ p q, ssV w p q (fun v => k v h) = false := fun p q => hw _
    simp only [e2, no1]
  cases v with
  | s l n => simp only [vS_s]; rfl
  | _ => rw [hn _ fun _ => rfl]; rfl
theorem ev_ssa (a : O) : doSSlice x (some a) none cf t h k = vI (oV a t) fun _ p => natK p fun p => ssaV (oV x t) p fun v => k v h := by
  simp only [doSSlice, oE_eq]
  have hb : ∀ (o : O) (d : Nat) (k : Nat → Bool), boundK (some o) d t k = vI (oV o t) fun _ n => natK n k := fun o d k => by show oE o t _ = _; rw [oE_eq]
  have h0 : ∀ (d : Nat) (k : Nat → Bool), boundK none d t k = k d := fun _ _ => rfl
  simp only [hb, h0, fN_eq]
  generalize oV x t = v
  have hn : ∀ w : V, (∀ k, vS w k = false) → (vI (oV a t) fun _ q => natK q fun q => ssaV w q fun v => k v h) = false := by
    intro w hw
    have e2 : ∀ q, ssaV w q (fun v => k v h) = false := fun q => hw _
    simp only [e2, no1]
  cases v with
  | s l n =>
    simp only [vS_s]
    have : ∀ p, ssaV (.s l n) p (fun v => k v h) = ifK (Nat.ble p l) fun _ => k (.s (Nat.sub l p) (Nat.mod (Nat.div n (Nat.pow 256 (Nat.sub l l))) (Nat.pow 256 (Nat.sub l p)))) h := fun _ => rfl
    simp only [this]
    have e : ∀ p, (ifK (Nat.ble p l) fun _ => ifK (Nat.ble l l) fun _ => k (.s (Nat.sub l p) (Nat.mod (Nat.div n (Nat.pow 256 (Nat.sub l l))) (Nat.pow 256 (Nat.sub l p)))) h) = ifK (Nat.ble p l) fun _ => k (.s (Nat.sub l p) (Nat.mod (Nat.div n (Nat.pow 256 (Nat.sub l l))) (Nat.pow 256 (Nat.sub l p)))) h := fun p => by
      have : Nat.ble l l = true := by rw [Nat.ble_eq]; exact Nat.le_refl _
      rw [this]; rfl
    simp only [e]
  | _ => rw [hn _ fun _ => rfl]; rfl
theorem ssV_sv {l : List UInt8} {a b : Nat} (h1 : a ≤ b) (h2 : b ≤ l.length) (k : V → Bool) : ssV (sv l) a b k = k (sv ((l.take b).drop a)) := by
  have e1 : Nat.ble a b = true := by rw [Nat.ble_eq]; exact h1
  have e2 : Nat.ble b l.length = true := by rw [Nat.ble_eq]; exact h2
  unfold ssV
  rw [vS_sv, e1, ifK_true, e2, ifK_true]
  unfold sv
  rw [pk_part l h1 h2, List.length_drop, List.length_take, Nat.min_eq_left h2]; rfl
theorem ssaV_sv {l : List UInt8} {a : Nat} (h1 : a ≤ l.length) (k : V → Bool) : ssaV (sv l) a k = k (sv (l.drop a)) := by
  have := ssV_sv h1 (Nat.le_refl _) k
  rw [List.take_length] at this
  rw [← this]
  have e1 : Nat.ble a l.length = true := by rw [Nat.ble_eq]; exact h1
  have e2 : Nat.ble l.length l.length = true := by rw [Nat.ble_eq]; exact Nat.le_refl _
  unfold ssV ssaV
  rw [vS_sv, vS_sv, e1, ifK_true, ifK_true, e2, ifK_true]

noncomputable def scV (f : Nat → Nat → Nat → Nat → Bool) (a b : V) (k : V → Bool) : Bool := vS a fun la na => vS b fun lb nb => k (.b (f la na lb nb))
theorem ev_scmp (f : Nat → Nat → Nat → Nat → Bool) : doSCmp f x y cf t h k = scV f (oV x t) (oV y t) fun v => k v h := by simp only [doSCmp, oE_eq, fB_eq]; rfl
theorem eqS_sv (a b : List UInt8) : eqS a.length (pk a) b.length (pk b) = decide (a = b) := by
  have e : ∀ {x y : Bool}, (x = true ↔ y = true) → x = y := by intro x y h; cases x <;> cases y <;> simp_all
  apply e
  rw [decide_eq_true_iff]
  have := pk_eq a b
  unfold eqS
  rw [← this]
  exact beq_iff_eq
theorem scV_eq (a b : List UInt8) (k : V → Bool) : scV eqS (sv a) (sv b) k = k (.b (decide (a = b))) := by
  unfold scV; rw [vS_sv, vS_sv, eqS_sv]
theorem scV_ne (a b : List UInt8) (k : V → Bool) : scV (fun a b c d => !eqS a b c d) (sv a) (sv b) k = k (.b (!decide (a = b))) := by
  unfold scV; rw [vS_sv, vS_sv]; simp only [eqS_sv]
theorem scV_lt (a b : List UInt8) (k : V → Bool) : scV ltS (sv a) (sv b) k = k (.b (Op.bytesLess a b)) := by
  unfold scV; rw [vS_sv, vS_sv, bytesLess_pk]

theorem ev_shift (f : IntKind → Int → Nat → (V → Bool) → Bool) : doShift f x y cf t h k = vI (oV x t) fun kd a => vI (oV y t) fun _ b => natK b fun n => f kd a (min n kd.bits) fun v => k v h := by simp only [doShift, oE_eq]
theorem f_shr (kd : IntKind) (a n : Nat) (k : V → Bool) : shrF kd (a : Int) n k = k (.i kd ((a / 2 ^ n : Nat) : Int)) := by
  unfold shrF
  rw [forceI_eq]
  have : Int.fdiv (a : Int) (Int.ofNat (Nat.pow 2 n)) = ((a / 2 ^ n : Nat) : Int) := by
    show Int.fdiv (a : Int) ((2 ^ n : Nat) : Int) = _
    rw [Int.fdiv_eq_ediv_of_nonneg _ (Int.natCast_nonneg _)]
    exact (Int.natCast_ediv a (2 ^ n)).symm
  rw [this]
theorem f_shl (kd : IntKind) (a : Int) (n : Nat) (k : V → Bool) : shlF kd a n k = k (.i kd (kd.wrap (a * ((2 ^ n : Nat) : Int)))) := wrapF_eq _ _ _
theorem f_or {kd : IntKind} {a b : Nat} (h1 : a ≤ mxOf kd) (h2 : b ≤ mxOf kd) (k : V → Bool) : fOr kd (a : Int) (b : Int) k = k (.i kd ((a ||| b : Nat) : Int)) := by
  have e1 : Nat.ble a (mxOf kd) = true := by rw [Nat.ble_eq]; exact h1
  have e2 : Nat.ble b (mxOf kd) = true := by rw [Nat.ble_eq]; exact h2
  unfold fOr
  show natK (Int.ofNat a) (fun a => natK (Int.ofNat b) _) = _
  rw [natK_ofNat, natK_ofNat, e1, ifK_true, e2, ifK_true, fN_eq]; rfl
theorem f_shl64 {a n : Nat} (h : a * 2 ^ n ≤ 9223372036854775807) (k : V → Bool) : shlF .i64 (a : Int) n k = k (.i .i64 ((a * 2 ^ n : Nat) : Int)) := by
  rw [f_shl]
  have e : (a : Int) * ((2 ^ n : Nat) : Int) = ((a * 2 ^ n : Nat) : Int) := (Int.natCast_mul a (2 ^ n)).symm
  rw [e, wrap_i64 (by omega) (by omega)]
theorem f_or64 {a b : Nat} (h1 : a ≤ 9223372036854775807) (h2 : b ≤ 9223372036854775807) (k : V → Bool) : fOr .i64 (a : Int) (b : Int) k = k (.i .i64 ((a ||| b : Nat) : Int)) := f_or h1 h2 k
theorem min_bits (n : Nat) (h : n ≤ 64) : min n (IntKind.bits .i64) = n := Nat.min_eq_left h
theorem f_quo {kd : IntKind} {a b : Nat} (hb : 0 < b) (h : a ≤ mxOf kd) (k : V → Bool) : fQuo kd (a : Int) (b : Int) k = k (.i kd ((a / b : Nat) : Int)) := by
  have e : eqI (b : Int) 0 = false := by rw [eqI_eq]; simp; omega
  unfold fQuo
  rw [e]
  show wrapF (Int.tdiv (a : Int) (b : Int)) kd (mxOf kd) k = _
  have e2 : Int.tdiv (a : Int) (b : Int) = ((a / b : Nat) : Int) := rfl
  rw [e2, wrapF_eq]
  have := wrap_small kd (a / b) (Nat.le_trans (Nat.div_le_self _ _) h)
  rw [show ((a / b : Nat) : Int) = Int.ofNat (a / b) from rfl, this]

theorem f_quo64 {a : Nat} {z : Int} (hz : 0 < z) (h : a ≤ 9223372036854775807) (k : V → Bool) : fQuo .i64 (a : Int) z k = k (.i .i64 ((a / z.toNat : Nat) : Int)) := by
  obtain ⟨n, rfl⟩ := Int.eq_ofNat_of_zero_le (Int.le_of_lt hz)
  exact f_quo (by omega) h k
theorem f_remZ {kd : IntKind} {a : Nat} {z : Int} (hz : 0 < z) (k : V → Bool) : fRem kd (a : Int) z k = k (.i kd ((a % z.toNat : Nat) : Int)) := by
  obtain ⟨n, rfl⟩ := Int.eq_ofNat_of_zero_le (Int.le_of_lt hz)
  exact f_rem (by omega) k
theorem ev_idxArr (len size : Nat) : doIndexAddrArr len size o x cf t h k = vP (oV o t) fun id g off fin => vI (oV x t) fun _ n => natK n fun n => ifK (Nat.ble (Nat.succ n) len) fun _ => k (.p id g (off + n * size) fin) h := by
  simp only [doIndexAddrArr, oE_eq, fN_eq]; rfl
theorem arrIx {i n : Nat} (h : i < n) (k : Unit → Bool) : ifK (Nat.ble (Nat.succ i) n) k = k () := by
  have : Nat.ble (Nat.succ i) n = true := by rw [Nat.ble_eq]; exact h
  rw [this]; rfl
/-- a part of an array at a pointer, up to its end -/
noncomputable def saV (n size : Nat) (v : V) (a b : Nat) (k : V → Bool) : Bool := vP v fun id g off fin => ifK (Nat.ble a b) fun _ => sliceC size id g off n fin n a b k
theorem ev_sliceArr (n size : Nat) (a : O) : doSliceArr n size x (some a) none cf t h k = vP (oV x t) fun id g off fin => vI (oV a t) fun _ p => natK p fun p => ifK (Nat.ble p n) fun _ => sliceC size id g off n fin n p n fun v => k v h := by
  simp only [doSliceArr, oE_eq]
  have hb : ∀ (o : O) (d : Nat) (k : Nat → Bool), boundK (some o) d t k = vI (oV o t) fun _ n => natK n k := fun o d k => by show oE o t _ = _; rw [oE_eq]
  have h0 : ∀ (d : Nat) (k : Nat → Bool), boundK none d t k = k d := fun _ _ => rfl
  simp only [hb, h0]
theorem sliceC_mid {size : Nat} {id : B} {g off len fin c a b : Nat} (h1 : b ≤ c) (h2 : a < c) (k : V → Bool) : sliceC size id g off len fin c a b k = k (.l id g (off + a * size) (b - a) fin (some (c - a))) := by
  have e1 : Nat.ble b c = true := by rw [Nat.ble_eq]; exact h1
  have e2 : Nat.beq a c = false := by
    cases hx : Nat.beq a c with
    | false => rfl
    | true => have := Nat.eq_of_beq_eq_true hx; omega
  unfold sliceC
  rw [e1, ifK_true, e2]
  show fN (Nat.sub b a) _ = _
  rw [fN_eq, fN_eq, fN_eq]; rfl
theorem ifBle {a b : Nat} (h : a ≤ b) (k : Unit → Bool) : ifK (Nat.ble a b) k = k () := by
  have : Nat.ble a b = true := by rw [Nat.ble_eq]; exact h
  rw [this]; rfl

noncomputable def b2sV (h : H) (v : V) (k : V → Bool) : Bool := vL v (fun _ => k (.s 0 0)) fun id g off len fin _ => loadN h id g off fin len fun vs => packK vs 0 fun n => k (.s len n)
theorem ev_b2s : doB2S x cf t h k = b2sV h (oV x t) fun v => k v h := by simp only [doB2S, oE_eq]; rfl
theorem pack_bv : ∀ (l : List UInt8) (acc : Nat) (k : Nat → Bool), packK (l.map bv) acc k = k (acc * 256 ^ l.length + pk l)
  | [], acc, k => by show fN acc k = _; rw [fN_eq]; simp [pk]
  | c :: l, acc, k => by
    show byteK (bv c) (fun c => fN (Nat.add (Nat.mul acc 256) c) fun acc => packK (l.map bv) acc k) = _
    have hb : ∀ k', byteK (bv c) k' = k' c.toNat := fun k' => by
      have h2 : Nat.ble c.toNat 255 = true := by rw [Nat.ble_eq]; have := c.toNat_lt; omega
      unfold byteK bv
      rw [vI_i, kdEq_self, ifK_true]
      show natK (Int.ofNat c.toNat) _ = _
      rw [natK_ofNat, h2, ifK_true]
    rw [hb, fN_eq, pack_bv l]
    congr 1
    show (acc * 256 + c.toNat) * 256 ^ l.length + pk l = acc * 256 ^ (l.length + 1) + (c.toNat * 256 ^ l.length + pk l)
    rw [Nat.add_mul, Nat.pow_succ, Nat.mul_assoc, Nat.mul_comm 256, Nat.add_assoc]
theorem b2s_lst {h : H} {v : V} {l : List UInt8} (a : Lst h v (l.map bv)) (hne : l ≠ []) (k : V → Bool) : b2sV h v k = k (sv l) := by
  rcases a with ⟨rfl, e⟩ | ⟨id, g, off, fin, cap, rfl, h2, h3, h4⟩
  · simp at e; exact absurd e hne
  · show loadN h id g off fin (l.map bv).length (fun vs => packK vs 0 fun n => k (.s (l.map bv).length n)) = _
    rw [loadN_row h4 rfl (by simpa using hne) h2, pack_bv]
    unfold sv
    simp
end

section
variable {P : Program} {S : Spec} {l : List CO} {t : F} {h : H} {K : F → H → Prop}
/-- a variable of its own, of many cells -/
theorem Ops.allocN {n : Nat} {b : Bool} {el : Nat} {z : List V} (hl : z.length < 2 ^ 37) (hf : B.val h.floor ≤ B.val h.next) (k : ∀ h1 id, Stay nowhere h h1 → id = h.next → B.val h1.next = B.val h.next + 1 → Own h1 id z → Ops P S l (put n (.p id 0 0 z.length) t) h1 K) :
    Ops P S (.mk .none (.some (slOf n)) b (.mk (doAlloc el z)) :: l) t h K := by
  obtain ⟨h1, a1, a2, a3, a4⟩ := alloc_own el z h hl hf
  refine Ops.op (v := .p h.next 0 0 z.length) (h1 := h1) (fun k => ?_) (k h1 h.next a2 rfl a4 a3)
  show alloc el z h (fun id h => k (.p id 0 0 z.length) h) = _
  rw [a1]
end
/-- the end of an own block, as a slice -/
theorem Own.back {h : H} {id : B} {xs : List V} {a fin : Nat} (o : Own h id xs) (ha : a ≤ xs.length) (hf : xs.length ≤ fin) (cap : Option Nat) : Lst h (.l id 0 a (xs.length - a) fin cap) (xs.drop a) := by
  have r := o.row
  obtain ⟨blk, h1, h2, h3, h4, h5, h6, h7⟩ := o
  refine .inr ⟨id, 0, a, fin, cap, by rw [List.length_drop], by rw [List.length_drop]; omega, h6, fun _ => ⟨blk, h1, by omega⟩, fun i y hy => ?_⟩
  rw [List.getElem?_drop] at hy
  have := r.2 (a + i) y hy
  rwa [Nat.zero_add] at this

def evt := And.intro @ev_concat (And.intro @ev_sindex (And.intro @ev_ss2 (And.intro @ev_ss1 (And.intro @ev_ssa (And.intro @ev_scmp (And.intro @scV_eq (And.intro @scV_ne (And.intro @scV_lt (And.intro @ev_shift (And.intro @ev_idxArr (And.intro @ev_sliceArr (And.intro @ev_b2s (And.intro @vS_sv (And.intro @natK_nn (And.intro @Int.toNat_natCast @sv_nil)))))))))))))))

end Go.Ev
