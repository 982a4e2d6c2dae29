/-
  The walk: what the operations make of values; memory that is read; conditions; calls; results.
-/
import Derived.Test.YtiecpllnbekmoaaWb
import Derived.Test.YtiecpllnbekmoaaEvZ
set_option linter.all false
namespace Go.Ev
open Go

/-- frames -/
noncomputable def gpJunk (n m : Nat) (v : V) (t : F) : V := get n (put m v t)
theorem get_put' (n m : Nat) (v : V) (t : F) : get n (put m v t) = if n = m then v else if n < 512 ∧ m < 512 then get n t else gpJunk n m v t := by
  by_cases h : n < 512 ∧ m < 512
  · rw [get_put n m v t h.1 h.2, if_pos h]
  · rw [if_neg h]
    by_cases e : n = m
    · subst e
      rw [if_pos rfl]
      exact (Classical.choose_spec (sPut_ok (slOf n) v t)).2.1
    · rw [if_neg e]; rfl

section
variable {P : Program} {h : H} {N : Nx} {kd : IntKind} {a b : Int}
theorem h2_add : H2 P (gBin fAdd) (.i kd a) (.i kd b) h N = N.go P (.i kd (kd.wrap (a + b))) h := hv_of fun k => by show ifK (kdEq kd kd) _ = _; rw [kdEq_self, ifK_true, f_add]
theorem h2_sub : H2 P (gBin fSub) (.i kd a) (.i kd b) h N = N.go P (.i kd (kd.wrap (a - b))) h := hv_of fun k => by show ifK (kdEq kd kd) _ = _; rw [kdEq_self, ifK_true, f_sub]
theorem h2_mul : H2 P (gBin fMul) (.i kd a) (.i kd b) h N = N.go P (.i kd (kd.wrap (a * b))) h := hv_of fun k => by show ifK (kdEq kd kd) _ = _; rw [kdEq_self, ifK_true, f_mul]
theorem h2_lss : H2 P (gBin fLss) (.i kd a) (.i kd b) h N = N.go P (.b (decide (a < b))) h := hv_of fun k => by show ifK (kdEq kd kd) _ = _; rw [kdEq_self, ifK_true, f_lss]
theorem h2_gtr : H2 P (gBin fGtr) (.i kd a) (.i kd b) h N = N.go P (.b (decide (b < a))) h := hv_of fun k => by show ifK (kdEq kd kd) _ = _; rw [kdEq_self, ifK_true, f_gtr]
theorem h2_leq : H2 P (gBin fLeq) (.i kd a) (.i kd b) h N = N.go P (.b (decide (a ≤ b))) h := hv_of fun k => by show ifK (kdEq kd kd) _ = _; rw [kdEq_self, ifK_true, f_leq]
theorem h2_geq : H2 P (gBin fGeq) (.i kd a) (.i kd b) h N = N.go P (.b (decide (b ≤ a))) h := hv_of fun k => by show ifK (kdEq kd kd) _ = _; rw [kdEq_self, ifK_true, f_geq]
theorem h2_eql : H2 P (gBin fEql) (.i kd a) (.i kd b) h N = N.go P (.b (decide (a = b))) h := hv_of fun k => by show ifK (kdEq kd kd) _ = _; rw [kdEq_self, ifK_true, f_eql]
theorem h2_neq : H2 P (gBin fNeq) (.i kd a) (.i kd b) h N = N.go P (.b (!decide (a = b))) h := hv_of fun k => by show ifK (kdEq kd kd) _ = _; rw [kdEq_self, ifK_true, f_neq]
theorem h2_quo (ha : 0 ≤ a) (hb : 0 < b) : H2 P (gBin fQuo) (.i kd a) (.i kd b) h N = N.go P (.i kd (kd.wrap (a / b))) h := hv_of fun k => by
  show ifK (kdEq kd kd) _ = _
  rw [kdEq_self, ifK_true]
  have e : eqI b 0 = false := by rw [eqI_eq]; simp; omega
  unfold fQuo
  rw [e]
  show wrapF (Int.tdiv a b) kd (mxOf kd) k = _
  rw [wrapF_eq, Int.tdiv_eq_ediv_of_nonneg ha]
theorem h2_rem (ha : 0 ≤ a) (hb : 0 < b) : H2 P gRem (.i kd a) (.i kd b) h N = N.go P (.i kd (a % b)) h := hv_of fun k => by
  show ifK (kdEq kd kd) (fun _ => fRem kd a b k) = _
  rw [kdEq_self, ifK_true]
  have e : eqI b 0 = false := by rw [eqI_eq]; simp; omega
  unfold fRem
  rw [e]
  show forceI (Int.tmod a b) (fun n => k (.i kd n)) = _
  rw [forceI_eq, Int.tmod_eq_emod_of_nonneg ha]
theorem h2_and {m : Nat} (hm : mxOf kd = m) (ha : 0 ≤ a) (ha2 : a ≤ m) (hb : 0 ≤ b) (hb2 : b ≤ m) : H2 P (gBin fAnd) (.i kd a) (.i kd b) h N = N.go P (.i kd ((a.toNat &&& b.toNat : Nat) : Int)) h := hv_of fun k => by
  show ifK (kdEq kd kd) _ = _
  rw [kdEq_self, ifK_true]
  obtain ⟨x, rfl⟩ := Int.eq_ofNat_of_zero_le ha
  obtain ⟨y, rfl⟩ := Int.eq_ofNat_of_zero_le hb
  have e1 : Nat.ble x (mxOf kd) = true := by rw [Nat.ble_eq]; omega
  have e2 : Nat.ble y (mxOf kd) = true := by rw [Nat.ble_eq]; omega
  show natK (Int.ofNat x) (fun a => natK (Int.ofNat y) _) = _
  rw [natK_ofNat, natK_ofNat, e1, ifK_true, e2, ifK_true, fN_eq]; rfl
theorem h2_or {m : Nat} (hm : mxOf kd = m) (ha : 0 ≤ a) (ha2 : a ≤ m) (hb : 0 ≤ b) (hb2 : b ≤ m) : H2 P (gBin fOr) (.i kd a) (.i kd b) h N = N.go P (.i kd ((a.toNat ||| b.toNat : Nat) : Int)) h := hv_of fun k => by
  show ifK (kdEq kd kd) _ = _
  rw [kdEq_self, ifK_true]
  obtain ⟨x, rfl⟩ := Int.eq_ofNat_of_zero_le ha
  obtain ⟨y, rfl⟩ := Int.eq_ofNat_of_zero_le hb
  have e1 : Nat.ble x (mxOf kd) = true := by rw [Nat.ble_eq]; omega
  have e2 : Nat.ble y (mxOf kd) = true := by rw [Nat.ble_eq]; omega
  show natK (Int.ofNat x) (fun a => natK (Int.ofNat y) _) = _
  rw [natK_ofNat, natK_ofNat, e1, ifK_true, e2, ifK_true, fN_eq]; rfl
theorem h2_xor {m : Nat} (hm : mxOf kd = m) (ha : 0 ≤ a) (ha2 : a ≤ m) (hb : 0 ≤ b) (hb2 : b ≤ m) : H2 P (gBin fXor) (.i kd a) (.i kd b) h N = N.go P (.i kd ((a.toNat ^^^ b.toNat : Nat) : Int)) h := hv_of fun k => by
  show ifK (kdEq kd kd) _ = _
  rw [kdEq_self, ifK_true]
  obtain ⟨x, rfl⟩ := Int.eq_ofNat_of_zero_le ha
  obtain ⟨y, rfl⟩ := Int.eq_ofNat_of_zero_le hb
  have e1 : Nat.ble x (mxOf kd) = true := by rw [Nat.ble_eq]; omega
  have e2 : Nat.ble y (mxOf kd) = true := by rw [Nat.ble_eq]; omega
  show natK (Int.ofNat x) (fun a => natK (Int.ofNat y) _) = _
  rw [natK_ofNat, natK_ofNat, e1, ifK_true, e2, ifK_true, fN_eq]; rfl
theorem h2_ant {m : Nat} (hm : mxOf kd = m) (ha : 0 ≤ a) (ha2 : a ≤ m) (hb : 0 ≤ b) (hb2 : b ≤ m) : H2 P (gBin fAnt) (.i kd a) (.i kd b) h N = N.go P (.i kd ((a.toNat ^^^ (a.toNat &&& b.toNat) : Nat) : Int)) h := hv_of fun k => by
  show ifK (kdEq kd kd) _ = _
  rw [kdEq_self, ifK_true]
  obtain ⟨x, rfl⟩ := Int.eq_ofNat_of_zero_le ha
  obtain ⟨y, rfl⟩ := Int.eq_ofNat_of_zero_le hb
  have e1 : Nat.ble x (mxOf kd) = true := by rw [Nat.ble_eq]; omega
  have e2 : Nat.ble y (mxOf kd) = true := by rw [Nat.ble_eq]; omega
  show natK (Int.ofNat x) (fun a => natK (Int.ofNat y) _) = _
  rw [natK_ofNat, natK_ofNat, e1, ifK_true, e2, ifK_true, fN_eq]; rfl
theorem h2_shl {kd' : IntKind} (hb : 0 ≤ b) : H2 P (gShift shlF) (.i kd a) (.i kd' b) h N = N.go P (.i kd (kd.wrap (a * ((2 ^ (min b.toNat kd.bits) : Nat) : Int)))) h := hv_of fun k => by
  show natK b _ = _
  rw [natK_nn hb, f_shl]
theorem h2_shr {kd' : IntKind} (hb : 0 ≤ b) : H2 P (gShift shrF) (.i kd a) (.i kd' b) h N = N.go P (.i kd (a / ((2 ^ (min b.toNat kd.bits) : Nat) : Int))) h := hv_of fun k => by
  show natK b _ = _
  rw [natK_nn hb]
  show forceI (Int.fdiv a ((2 ^ _ : Nat) : Int)) (fun n => k (.i kd n)) = _
  rw [forceI_eq, Int.fdiv_eq_ediv_of_nonneg _ (Int.natCast_nonneg _)]
theorem h2_beq {x y : Bool} : H2 P (gBool false) (.b x) (.b y) h N = N.go P (.b (x == y)) h := hv_of fun k => by cases x <;> cases y <;> rfl
theorem h2_bne {x y : Bool} : H2 P (gBool true) (.b x) (.b y) h N = N.go P (.b (x != y)) h := hv_of fun k => by cases x <;> cases y <;> rfl
theorem h1_not {x : Bool} : H1 P gNot (.b x) h N = N.go P (.b (!x)) h := hv_of fun k => rfl
theorem h1_neg : H1 P gNeg (.i kd a) h N = N.go P (.i kd (kd.wrap (-a))) h := hv_of fun k => wrapF_eq _ _ _
theorem h1_conv {kd' : IntKind} : H1 P (gConv kd) (.i kd' a) h N = N.go P (.i kd (kd.wrap a)) h := hv_of fun k => rfl
theorem h1_ext0 {v : V} {vs : List V} : H1 P (gExt 0) (.tu (v :: vs)) h N = N.go P v h := hv_of fun k => rfl
theorem h1_ext1 {u v : V} {vs : List V} : H1 P (gExt 1) (.tu (u :: v :: vs)) h N = N.go P v h := hv_of fun k => rfl
theorem h1_ext2 {u w v : V} {vs : List V} : H1 P (gExt 2) (.tu (u :: w :: v :: vs)) h N = N.go P v h := hv_of fun k => rfl
theorem h1_ext3 {u w z v : V} {vs : List V} : H1 P (gExt 3) (.tu (u :: w :: z :: v :: vs)) h N = N.go P v h := hv_of fun k => rfl
theorem h2_min : H2 P gMin (.i kd a) (.i kd b) h N = N.go P (.i kd (min a b)) h := hv_of fun k => by show ifK (kdEq kd kd) _ = _; rw [kdEq_self, ifK_true]
theorem h2_max : H2 P gMax (.i kd a) (.i kd b) h N = N.go P (.i kd (max a b)) h := hv_of fun k => by show ifK (kdEq kd kd) _ = _; rw [kdEq_self, ifK_true]
theorem h3_pick {q : Bool} {x y : V} : H3 P gPick (.b q) x y h N = N.go P (cond q x y) h := hv_of fun k => rfl
def FDJ (P : Program) (d : Nat) (cs : List V) (h : H) (N : Nx) : Prop := H1 P (gField d) (.a cs) h N
theorem h1_field {d : Nat} {cs : List V} : H1 P (gField d) (.a cs) h N = if d < cs.length then N.go P (cs.getD d .u) h else FDJ P d cs h N := by
  split
  · rename_i hd
    exact hv_of fun k => by
      show optK (cs[d]?) k = _
      rw [show cs[d]? = some (cs.getD d .u) by simp [hd]]; rfl
  · rfl
theorem h1_fieldA {d size : Nat} {cs : List V} : H1 P (gFieldA d size) (.a cs) h N = N.go P (.a ((cs.drop d).take size)) h := hv_of fun k => rfl
theorem h1_fieldAddr {d : Nat} {id : B} {g off fin : Nat} : H1 P (gFieldAddr d) (.p id g off fin) h N = N.go P (.p id g (off + d) fin) h := hv_of fun k => rfl
theorem h1_nilCheck {id : B} {g off fin : Nat} : H1 P gNilCheck (.p id g off fin) h N = N.go P (.p id g off fin) h := hv_of fun k => rfl
/-- an element's place -/
def IX (P : Program) (size : Nat) (v : V) (i : Nat) (h : H) (N : Nx) : Prop := HV P (idxV size v i) h N
theorem h2_idx {size : Nat} {v : V} (ha : 0 ≤ a) : H2 P (gIndex size) v (.i kd a) h N = IX P size v a.toNat h N := by
  unfold H2 IX
  congr 1
  funext k
  show natK a _ = _
  rw [natK_nn ha]
theorem ix_l {size i : Nat} {id : B} {g off len fin : Nat} {cap : Option Nat} (hi : i < len) : IX P size (.l id g off len fin cap) i h N = N.go P (.p id g (off + i * size) fin) h := hv_of fun k => by
  show ifK (Nat.ble (i + 1) len) (fun _ => k (.p id g (off + i * size) fin)) = _
  have : Nat.ble (i + 1) len = true := by rw [Nat.ble_eq]; exact hi
  rw [this, ifK_true]
theorem h2_idxArr {len size : Nat} {id : B} {g off fin : Nat} (ha : 0 ≤ a) (hl : a < len) : H2 P (gIndexArr len size) (.p id g off fin) (.i kd a) h N = N.go P (.p id g (off + a.toNat * size) fin) h := hv_of fun k => by
  show natK a _ = _
  rw [natK_nn ha, arrIx (by omega)]
theorem gLen_l0 : H1 P gLen .l0 h N = N.go P (.i .i64 0) h := hv_of fun k => rfl
theorem gLen_l {id : B} {g off len fin : Nat} {cap : Option Nat} : H1 P gLen (.l id g off len fin cap) h N = N.go P (.i .i64 (len : Int)) h := hv_of fun k => rfl
/-! texts -/
theorem h1_lenS {l : List UInt8} : H1 P gLenS (sv l) h N = N.go P (.i .i64 (l.length : Int)) h := hv_of fun k => rfl
theorem h2_sindex {l : List UInt8} (ha : 0 ≤ a) (hl : a < l.length) : H2 P gSIndex (sv l) (.i kd a) h N = N.go P (.i .u8 ((l.getD a.toNat 0).toNat : Int)) h := hv_of fun k => by
  show natK a _ = _
  rw [natK_nn ha, sixV_sv (by omega)]
theorem h2_aindex {len size : Nat} {cs : List V} (ha : 0 ≤ a) (hl : a < len) (hc : a.toNat * size < cs.length) : H2 P (gAIndex len size) (.a cs) (.i kd a) h N = N.go P (cs.getD (a.toNat * size) .u) h := hv_of fun k => by
  show natK a _ = _
  have : Nat.ble (a.toNat + 1) len = true := by rw [Nat.ble_eq]; omega
  rw [natK_nn ha]
  show ifK (Nat.ble (a.toNat + 1) len) (fun _ => optK (cs[a.toNat * size]?) k) = _
  rw [this, ifK_true, show cs[a.toNat * size]? = some (cs.getD (a.toNat * size) .u) by simp [hc]]; rfl
theorem h2_cat {x y : List UInt8} (hl : x.length + y.length ≤ 1048576) : H2 P catV (sv x) (sv y) h N = N.go P (sv (x ++ y)) h := hv_of fun k => catV_sv hl k
theorem h2_seq {x y : List UInt8} : H2 P (scV eqS) (sv x) (sv y) h N = N.go P (.b (decide (x = y))) h := hv_of fun k => scV_eq x y k
theorem h2_sne {x y : List UInt8} : H2 P (scV fun a b c d => !eqS a b c d) (sv x) (sv y) h N = N.go P (.b (!decide (x = y))) h := hv_of fun k => scV_ne x y k
theorem h2_slt {x y : List UInt8} : H2 P (scV ltS) (sv x) (sv y) h N = N.go P (.b (Op.bytesLess x y)) h := hv_of fun k => scV_lt x y k
theorem h2_sge {x y : List UInt8} : H2 P (scV fun a b c d => !ltS a b c d) (sv x) (sv y) h N = N.go P (.b (!Op.bytesLess x y)) h := hv_of fun k => by
  unfold scV; rw [vS_sv, vS_sv, bytesLess_pk]
theorem h2_sle {x y : List UInt8} : H2 P (scV fun a b c d => ltS a b c d || eqS a b c d) (sv x) (sv y) h N = N.go P (.b (Op.bytesLess x y || decide (x = y))) h := hv_of fun k => by
  unfold scV; rw [vS_sv, vS_sv]; show k (.b (ltS x.length (pk x) y.length (pk y) || eqS x.length (pk x) y.length (pk y))) = _; rw [eqS_sv, bytesLess_pk]
theorem h2_sgt {x y : List UInt8} : H2 P (scV fun a b c d => !(ltS a b c d || eqS a b c d)) (sv x) (sv y) h N = N.go P (.b (!(Op.bytesLess x y || decide (x = y)))) h := hv_of fun k => by
  unfold scV; rw [vS_sv, vS_sv]; show k (.b (!(ltS x.length (pk x) y.length (pk y) || eqS x.length (pk x) y.length (pk y)))) = _; rw [eqS_sv, bytesLess_pk]
theorem h3_ss2 {l : List UInt8} {kd' : IntKind} (ha : 0 ≤ a) (hab : a ≤ b) (hb : b ≤ l.length) : H3 P gSS2 (sv l) (.i kd a) (.i kd' b) h N = N.go P (sv ((l.take b.toNat).drop a.toNat)) h := hv_of fun k => by
  show natK a (fun p => natK b fun q => ssV (sv l) p q k) = _
  rw [natK_nn ha, natK_nn (by omega), ssV_sv (by omega) (by omega)]
theorem h2_ss1 {l : List UInt8} (ha : 0 ≤ a) (hb : a ≤ l.length) : H2 P gSS1 (sv l) (.i kd a) h N = N.go P (sv (l.take a.toNat)) h := hv_of fun k => by
  show natK a (fun q => ssV (sv l) 0 q k) = _
  rw [natK_nn ha, ssV_sv (by omega) (by omega), List.drop_zero]
theorem h2_ssa {l : List UInt8} (ha : 0 ≤ a) (hb : a ≤ l.length) : H2 P gSSa (sv l) (.i kd a) h N = N.go P (sv (l.drop a.toNat)) h := hv_of fun k => by
  show natK a (fun p => ssaV (sv l) p k) = _
  rw [natK_nn ha, ssaV_sv (by omega)]
theorem h1_moveS {l : List UInt8} : H1 P gMoveS (sv l) h N = N.go P (sv l) h := hv_of fun k => rfl
theorem h2_nilL0 {ne : Bool} : H2 P (gNil vLN ne) .l0 .l0 h N = N.go P (.b (!ne)) h := hv_of fun k => by cases ne <;> rfl
theorem h2_nilL1 {ne : Bool} {id : B} {g off len fin : Nat} {cap : Option Nat} : H2 P (gNil vLN ne) (.l id g off len fin cap) .l0 h N = N.go P (.b ne) h := hv_of fun k => by cases ne <;> rfl
theorem h2_nilP0 {ne : Bool} : H2 P (gNil vPN ne) .p0 .p0 h N = N.go P (.b (!ne)) h := hv_of fun k => by cases ne <;> rfl
theorem h2_nilP1 {ne : Bool} {id : B} {g off fin : Nat} : H2 P (gNil vPN ne) (.p id g off fin) .p0 h N = N.go P (.b ne) h := hv_of fun k => by cases ne <;> rfl
end

noncomputable def gI2S (x : V) (k : V → Bool) : Bool := vI x fun _ n => natK n fun n => ifK (Nat.ble n 127) fun _ => k (.s 1 n)
theorem or_i2s {P : Program} {t : F} {h : H} {N : Nx} (x : O) : OR P (doI2S x) t h N = H1 P gI2S (oV x t) h N := or_hv fun cf k => by simp only [doI2S, oE_eq]; rfl
theorem sv_one {k : Nat} (h : k < 256) : V.s 1 k = sv [UInt8.ofNat k] := by
  unfold sv
  have : (UInt8.ofNat k).toNat = k := by simp; omega
  simp [pk, this]
theorem h1_i2s {P : Program} {h : H} {N : Nx} {kd : IntKind} {a : Int} (ha : 0 ≤ a) (hb : a ≤ 127) : H1 P gI2S (.i kd a) h N = N.go P (sv [UInt8.ofNat a.toNat]) h := hv_of fun k => by
  show natK a _ = _
  have e : Nat.ble a.toNat 127 = true := by rw [Nat.ble_eq]; omega
  rw [natK_nn ha, e, ifK_true, sv_one (by omega)]

/-! ### Memory that is read -/
def LD (P : Program) (v : V) (h : H) (N : Nx) : Prop := HV P (fun k => vP v fun id g off fin => load1 h id g off fin k) h N
def LA (P : Program) (size : Nat) (v : V) (h : H) (N : Nx) : Prop := HV P (fun k => vP v fun id g off fin => loadN h id g off fin size fun vs => k (.a vs)) h N
def L1 (P : Program) (id : B) (g off fin : Nat) (h : H) (N : Nx) : Prop := HV P (load1 h id g off fin) h N
def LN (P : Program) (id : B) (g off fin size : Nat) (h : H) (N : Nx) : Prop := HV P (fun k => loadN h id g off fin size fun vs => k (.a vs)) h N
def BS (P : Program) (v : V) (h : H) (N : Nx) : Prop := HV P (b2sV h v) h N
section
variable {P : Program} {t : F} {h : H} {N : Nx} {o x : O} {id : B} {g off fin size : Nat}
theorem or_load : OR P (doLoad o) t h N = LD P (oV o t) h N := or_hv fun cf k => ev_load ..
theorem or_loadA : OR P (doLoadA size o) t h N = LA P size (oV o t) h N := or_hv fun cf k => ev_loadA ..
theorem or_b2s : OR P (doB2S x) t h N = BS P (oV x t) h N := or_hv fun cf k => ev_b2s ..
theorem ld_p : LD P (.p id g off fin) h N = L1 P id g off fin h N := rfl
theorem la_p : LA P size (.p id g off fin) h N = LN P id g off fin size h N := rfl
theorem loadRe {h : H} (k : V → Bool) : load1 (reFloor h) id g off fin k = load1 h id g off fin k := by cases h; rfl
section
variable {n : Nat} {l : List CO} {K : F → H → Prop} {v : V}
theorem l1_re : L1 P id g off fin (reFloor h) (.u n l t h K) = L1 P id g off fin h (.d n l t K) := by
  unfold L1 HV
  simp only [loadRe, go_u, go_d, unFloor_re]
theorem ln_re : LN P id g off fin size (reFloor h) (.u n l t h K) = LN P id g off fin size h (.d n l t K) := by
  have e : ∀ k : List V → Bool, loadN (reFloor h) id g off fin size k = loadN h id g off fin size k := fun k => by cases h; rfl
  unfold LN HV
  simp only [e, go_u, go_d, unFloor_re]
theorem bs_re : BS P v (reFloor h) (.u n l t h K) = BS P v h (.d n l t K) := by
  have e : b2sV (reFloor h) v = b2sV h v := by cases h; rfl
  unfold BS HV
  simp only [e, go_u, go_d, unFloor_re]
end
theorem Row.l1 {xs : List V} (r : Row h id g 0 xs) (hi : off < xs.length) (hf : off < fin) : L1 P id g off fin h N = N.go P (xs.getD off .u) h := hv_of fun k =>
  load1_cell (by have := r.2 off (xs.getD off .u) (by simp [hi]); rwa [Nat.zero_add] at this) hf k
theorem Lst.ln {h0 : H} {v : V} {xs : List V} (a : Lst h0 v xs) : H1 P gLen v h N = N.go P (.i .i64 (xs.length : Int)) h := hv_of fun k => by unfold gLen; rw [a.len]
theorem Lst.ix {h0 : H} {v : V} {xs : List V} {i : Nat} (a : Lst h0 v xs) (hi : i < xs.length) : IX P 1 v i h N = N.go P (.p (lid v) (lg v) (loff v + i) (lfin v)) h := hv_of fun k => a.idx hi k
theorem Lst.ld {v : V} {xs : List V} {i : Nat} (a : Lst h v xs) (hi : i < xs.length) : L1 P (lid v) (lg v) (loff v + i) (lfin v) h N = N.go P (xs.getD i .u) h := hv_of fun k => load_lst a (by simp [hi]) k
theorem Il.ln {h0 : H} {v : V} {xs : List Int} (a : Il h0 v xs) : H1 P gLen v h N = N.go P (.i .i64 (xs.length : Int)) h := by rw [Lst.ln a, List.length_map]
theorem Il.ix {h0 : H} {v : V} {xs : List Int} {i : Nat} (a : Il h0 v xs) (hi : i < xs.length) : IX P 1 v i h N = N.go P (.p (lid v) (lg v) (loff v + i) (lfin v)) h := hv_of fun k => a.idx hi k
theorem Il.ld {v : V} {xs : List Int} {i : Nat} (a : Il h v xs) (hi : i < xs.length) : L1 P (lid v) (lg v) (loff v + i) (lfin v) h N = N.go P (.i .i64 (xs.getD i 0)) h := hv_of fun k => a.rd hi k
theorem Bl.ln {h0 : H} {v : V} {xs : List Bool} (a : Bl h0 v xs) : H1 P gLen v h N = N.go P (.i .i64 (xs.length : Int)) h := by rw [Lst.ln a, List.length_map]
theorem Bl.ix {h0 : H} {v : V} {xs : List Bool} {i : Nat} (a : Bl h0 v xs) (hi : i < xs.length) : IX P 1 v i h N = N.go P (.p (lid v) (lg v) (loff v + i) (lfin v)) h := hv_of fun k => a.idx hi k
theorem Bl.ld {v : V} {xs : List Bool} {i : Nat} (a : Bl h v xs) (hi : i < xs.length) : L1 P (lid v) (lg v) (loff v + i) (lfin v) h N = N.go P (.b (xs.getD i false)) h := hv_of fun k => a.rd hi k
/-- a slice of texts -/
def Tl (h : H) (v : V) (xs : List (List UInt8)) : Prop := Lst h v (xs.map sv)
theorem Tl.grow {h h' : H} {v : V} {xs : List (List UInt8)} (a : Tl h v xs) (s : Stay nowhere h h') : Tl h' v xs := Lst.grow a s
theorem Tl.ln {h0 : H} {v : V} {xs : List (List UInt8)} (a : Tl h0 v xs) : H1 P gLen v h N = N.go P (.i .i64 (xs.length : Int)) h := by rw [Lst.ln a, List.length_map]
theorem Tl.ix {h0 : H} {v : V} {xs : List (List UInt8)} {i : Nat} (a : Tl h0 v xs) (hi : i < xs.length) : IX P 1 v i h N = N.go P (.p (lid v) (lg v) (loff v + i) (lfin v)) h := Lst.ix a (by simpa using hi)
theorem Tl.ld {v : V} {xs : List (List UInt8)} {i : Nat} (a : Tl h v xs) (hi : i < xs.length) : L1 P (lid v) (lg v) (loff v + i) (lfin v) h N = N.go P (sv (xs.getD i [])) h := hv_of fun k => load_lst a (by simp [hi]) k
theorem Lst.bs {v : V} {l : List UInt8} (a : Lst h v (l.map bv)) (hne : l ≠ []) : BS P v h N = N.go P (sv l) h := hv_of fun k => b2s_lst a hne k
end

/-! structs compared, cell by cell -/
noncomputable def gSEq (ks : List KD) (ne : Bool) (x y : V) (k : V → Bool) : Bool := vA x fun xs => vA y fun ys => eqL ks xs ys fun r => k (.b (xor ne r))
section
variable {P : Program} {t : F} {h : H} {N : Nx} {ks : List KD} {ne : Bool} {kd : IntKind}
theorem or_sEq {x y : O} : OR P (doSEq ks ne x y) t h N = H2 P (gSEq ks ne) (oV x t) (oV y t) h N := or_hv fun cf k => by simp only [doSEq, oE_eq, fB_eq]; rfl
theorem eqL_s {a b : List UInt8} {xs ys : List V} {k : Bool → Bool} : eqL (.s :: ks) (sv a :: xs) (sv b :: ys) k = if a = b then eqL ks xs ys k else k false := by
  show boolK (eqS a.length (pk a) b.length (pk b)) (fun _ => (fun r => boolK r (fun _ => eqL ks xs ys k) (fun _ => k false)) true) (fun _ => (fun r => boolK r (fun _ => eqL ks xs ys k) (fun _ => k false)) false) = _
  rw [eqS_sv]
  by_cases e : a = b
  · rw [if_pos e, decide_eq_true e]; rfl
  · rw [if_neg e, decide_eq_false e]; rfl
theorem eqL_i {a b : Int} {xs ys : List V} {k : Bool → Bool} : eqL (.i :: ks) (.i kd a :: xs) (.i kd b :: ys) k = if a = b then eqL ks xs ys k else k false := by
  show ifK (kdEq kd kd) (fun _ => boolK (eqI a b) (fun _ => (fun r => boolK r (fun _ => eqL ks xs ys k) (fun _ => k false)) true) (fun _ => (fun r => boolK r (fun _ => eqL ks xs ys k) (fun _ => k false)) false)) = _
  rw [kdEq_self, ifK_true, eqI_eq]
  by_cases e : a = b
  · rw [if_pos e, show (a == b) = true by simpa using e]; rfl
  · rw [if_neg e, show (a == b) = false by simpa using e]; rfl
theorem eqL_b {a b : Bool} {xs ys : List V} {k : Bool → Bool} : eqL (.b :: ks) (.b a :: xs) (.b b :: ys) k = if a = b then eqL ks xs ys k else k false := by
  cases a <;> cases b <;> rfl
theorem eqL_n {xs ys : List V} {k : Bool → Bool} : eqL [] xs ys k = k true := rfl
/-- an entry -/
theorem h2_sE {a b v w : List UInt8} {n m : Int} {d e : Bool} : H2 P (gSEq [.s, .i, .b, .s] ne) (.a [sv a, .i kd n, .b d, sv v]) (.a [sv b, .i kd m, .b e, sv w]) h N = N.go P (.b (xor ne (decide (a = b ∧ n = m ∧ d = e ∧ v = w)))) h := hv_of fun k => by
  unfold gSEq; rw [vA_a, vA_a]
  rw [eqL_s, eqL_i, eqL_b, eqL_s, eqL_n]
  by_cases h1 : a = b <;> by_cases h2 : n = m <;> by_cases h3 : d = e <;> by_cases h4 : v = w <;> simp [h1, h2, h3, h4]
/-- a write -/
theorem h2_sW {a b v w : List UInt8} {d e : Bool} : H2 P (gSEq [.s, .b, .s] ne) (.a [sv a, .b d, sv v]) (.a [sv b, .b e, sv w]) h N = N.go P (.b (xor ne (decide (a = b ∧ d = e ∧ v = w)))) h := hv_of fun k => by
  unfold gSEq; rw [vA_a, vA_a]
  rw [eqL_s, eqL_b, eqL_s, eqL_n]
  by_cases h1 : a = b <;> by_cases h3 : d = e <;> by_cases h4 : v = w <;> simp [h1, h3, h4]
/-- a pair -/
theorem h2_sP {a b v w : List UInt8} : H2 P (gSEq [.s, .s] ne) (.a [sv a, sv v]) (.a [sv b, sv w]) h N = N.go P (.b (xor ne (decide (a = b ∧ v = w)))) h := hv_of fun k => by
  unfold gSEq; rw [vA_a, vA_a]
  rw [eqL_s, eqL_s, eqL_n]
  by_cases h1 : a = b <;> by_cases h4 : v = w <;> simp [h1, h4]
end
/-! ### Blocks that are made -/
/-- what comes with another memory -/
def HM (P : Program) (g : (V → H → Bool) → Bool) (N : Nx) : Prop := ∃ v h', (∀ k, g k = k v h') ∧ N.go P v h'
theorem or_hm {P : Program} {r : Run} {t : F} {h : H} {N : Nx} {g : (V → H → Bool) → Bool} (e : ∀ cf k, r cf t h k = g k) : OR P r t h N = HM P g N :=
  propext ⟨fun ⟨v, h', ⟨cf, _, c2⟩, k⟩ => ⟨v, h', fun k => (e cf k).symm.trans (c2 k), k⟩, fun ⟨v, h', c, k⟩ => ⟨v, h', ⟨_, cfSome P, fun k => (e _ k).trans (c k)⟩, k⟩⟩
theorem hm_of {P : Program} {g : (V → H → Bool) → Bool} {N : Nx} {v : V} {h' : H} (e : ∀ k, g k = k v h') (k : N.go P v h') : HM P g N := ⟨v, h', e, k⟩
/-- a new block of these cells; 'mk' of its name is what comes -/
def AL (P : Program) (el : Nat) (cs : List V) (mk : B → V) (h : H) (N : Nx) : Prop := HM P (fun k => alloc el cs h fun id h' => k (mk id) h') N
theorem AL.own {P : Program} {el : Nat} {cs : List V} {mk : B → V} {h : H} {N : Nx} (hl : cs.length < 2 ^ 37) (hf : B.val h.floor ≤ B.val h.next)
    (k : ∀ h', Stay nowhere h h' → B.val h'.next = B.val h.next + 1 → Own h' h.next cs → N.go P (mk h.next) h') : AL P el cs mk h N := by
  obtain ⟨h', a1, a2, a3, a4⟩ := alloc_own el cs h hl hf
  exact hm_of (fun k => a1 _) (k h' a2 a4 a3)
theorem AL.ownE {P : Program} {el : Nat} {cs : List V} {mk : B → V} {h : H} {N : Nx} (hl : cs.length < 2 ^ 37) (hf : B.val h.floor ≤ B.val h.next)
    (k : ∀ h', Stay nowhere h h' → B.val h'.next = B.val h.next + 1 → OwnE h' h.next el cs → N.go P (mk h.next) h') : AL P el cs mk h N := by
  obtain ⟨h', a1, a2, a3, blk, b1, b2, b3, b4, b5, b6, b7⟩ := alloc_new el cs h (by omega)
  exact hm_of (fun k => a1 _) (k h' a2 a3 ⟨blk, b1, b3, b2, b6, b5, by rw [a2.floor]; exact hf, by omega, b7⟩)
/-- a list of cells, filled: then 'f' of them -/
def FL (P : Program) (ps : List Pt) (t : F) (cs : List V) (el : Option (Nat × Nat)) (h : H) (N : Nx) : Prop := match el with
  | none => HM P (fun k => fillL ps t cs fun ds => k (.a ds) h) N
  | some (el, len) => HM P (fun k => fillL ps t cs fun ds => alloc el ds h fun id h' => k (.l id 0 0 len ds.length (some len)) h') N
def FP (P : Program) (off size : Nat) (v : V) (ps : List Pt) (t : F) (cs : List V) (el : Option (Nat × Nat)) (h : H) (N : Nx) : Prop := match el with
  | none => HM P (fun k => fillP off size (fillL ps) t cs (fun ds => k (.a ds) h) v) N
  | some (el, len) => HM P (fun k => fillP off size (fillL ps) t cs (fun ds => alloc el ds h fun id h' => k (.l id 0 0 len ds.length (some len)) h') v) N
/-- a block of one value -/
def BX (P : Program) (el : Nat) (v : V) (h : H) (N : Nx) : Prop := HM P (fun k => ifK (knownV v) fun _ => alloc el (cells v) h fun id h => k (.p id 0 0 (cells v).length) h) N
def ST (P : Program) (size : Nat) (p x : V) (h : H) (N : Nx) : Prop := HM P (fun k => vP p fun id g off fin => ifK (Nat.beq (cells x).length size) fun _ => store h id g off fin (cells x) fun h => k (.tu []) h) N
def MS (P : Program) (el : Nat) (z : List V) (l c : V) (h : H) (N : Nx) : Prop := HM P (fun k => vI l fun _ l => natK l fun l => vI c fun _ c => natK c fun c => ifK (Nat.ble l c) fun _ => ifK (Nat.ble c 1048576) fun _ => alloc el (repL z c) h fun id h => k (.l id 0 0 l (Nat.mul c z.length) (some c)) h) N
def AP (P : Program) (el size : Nat) (s x : V) (h : H) (N : Nx) : Prop := HM P (fun k => newCells size x h fun n vs => append2 el size s n vs h k) N
def AS (P : Program) (el : Nat) (s x : V) (h : H) (N : Nx) : Prop := HM P (fun k => newCellsS x fun n vs => append2 el 1 s n vs h k) N
def CP (P : Program) (size : Nat) (x y : V) (h : H) (N : Nx) : Prop := HM P (fun k => vL x (fun _ => copy0 y (k (.i .i64 (.ofNat 0)) h)) fun id g off len fin _ => copyTo size y h k id g off len fin) N
def SB (P : Program) (el : Nat) (x : V) (h : H) (N : Nx) : Prop := HM P (fun k => vS x fun l n => ifK (Nat.ble l 1048576) fun _ => unpK l n [] fun vs => alloc el vs h fun id h => markK h id fun h => k (.l id 0 0 l l none) h) N
section
variable {P : Program} {t : F} {h : H} {N : Nx} {o x y l c s : O} {el len size : Nat} {z : List V} {ps : List Pt}
theorem or_alloc : OR P (doAlloc el z) t h N = AL P el z (fun id => .p id 0 0 z.length) h N := or_hm fun cf k => rfl
theorem or_box : OR P (doBox el o) t h N = BX P el (oV o t) h N := or_hm fun cf k => by simp only [doBox, oK_eq]
theorem or_buildSlice : OR P (doBuildSlice el len z ps) t h N = FL P ps t z (some (el, len)) h N := or_hm fun cf k => rfl
theorem or_build : OR P (doBuild z ps) t h N = FL P ps t z none h N := or_hm fun cf k => rfl
theorem or_store : OR P (doStore size o x) t h N = ST P size (oV o t) (oV x t) h N := or_hm fun cf k => by simp only [doStore, oE_eq, oK_eq]
theorem or_makeSlice : OR P (doMakeSlice el z l c) t h N = MS P el z (oV l t) (oV c t) h N := or_hm fun cf k => by
  have no : ∀ u : V, (vI u fun _ n => natK n fun _ => false) = false := no1
  simp only [doMakeSlice, oE_eq]
theorem or_append : OR P (doAppend el size s x) t h N = AP P el size (oV s t) (oV x t) h N := or_hm fun cf k => by simp only [doAppend, oK_eq]
theorem or_appendS : OR P (doAppendS el s x) t h N = AS P el (oV s t) (oV x t) h N := or_hm fun cf k => by simp only [doAppendS, oK_eq]
theorem or_copy : OR P (doCopy size x y) t h N = CP P size (oV x t) (oV y t) h N := or_hm fun cf k => by simp only [doCopy, oK_eq]
theorem or_s2b : OR P (doS2B el x) t h N = SB P el (oV x t) h N := or_hm fun cf k => by simp only [doS2B, oE_eq]
theorem fl_n : FL P [] t z none h N = N.go P (.a z) h := propext ⟨fun ⟨v, h', e, k⟩ => by obtain ⟨rfl, rfl⟩ := vh_of e; exact k, fun k => ⟨_, _, fun _ => rfl, k⟩⟩
theorem fl_s : FL P [] t z (some (el, len)) h N = AL P el z (fun id => .l id 0 0 len z.length (some len)) h N := rfl
theorem fl_c {e : Option (Nat × Nat)} {off size : Nat} : FL P (Pt.mk off size o :: ps) t z e h N = FP P off size (oV o t) ps t z e h N := by
  have e0 : ∀ k, fillL (⟨off, size, o⟩ :: ps) t z k = fillP off size (fillL ps) t z k (oV o t) := fun k => by show oK o t _ = _; rw [oK_eq]; rfl
  unfold FL FP
  simp only [e0]
theorem fp_of {e : Option (Nat × Nat)} {off size : Nat} {v : V} {cs : List V} (hk : knownV v = true) (hc : cells v = cs) (hs : cs.length = size) (hb : off + size ≤ z.length) : FP P off size v ps t z e h N = FL P ps t (z.take off ++ (cs ++ z.drop (off + size))) e h N := by
  have e0 : ∀ k, fillP off size (fillL ps) t z k v = fillL ps t (z.take off ++ (cs ++ z.drop (off + size))) k := fun k => by
    have h1 : Nat.beq (cells v).length size = true := by rw [hc, hs]; exact Nat.beq_refl _
    have h2 : Nat.ble (Nat.add off size) z.length = true := by rw [Nat.ble_eq]; exact hb
    unfold fillP
    rw [hk, ifK_true, h1, ifK_true, h2, ifK_true, hc]
    unfold putAt
    rw [app_eq, app_eq, hs]
  unfold FP FL
  simp only [e0]
section
variable {e : Option (Nat × Nat)} {off : Nat}
def FPJ (P : Program) (off size : Nat) (v : V) (ps : List Pt) (t : F) (cs : List V) (el : Option (Nat × Nat)) (h : H) (N : Nx) : Prop := FP P off size v ps t cs el h N
theorem fp_at {size : Nat} {v : V} {cs : List V} (hk : knownV v = true) (hc : cells v = cs) (hs : cs.length = size) : FP P off size v ps t z e h N = if off + size ≤ z.length then FL P ps t (z.take off ++ (cs ++ z.drop (off + size))) e h N else FPJ P off size v ps t z e h N := by
  split
  · rename_i hb; exact fp_of hk hc hs hb
  · rfl
theorem fp_i {kd : IntKind} {a : Int} : FP P off 1 (.i kd a) ps t z e h N = if off + 1 ≤ z.length then FL P ps t (z.take off ++ (.i kd a :: z.drop (off + 1))) e h N else FPJ P off 1 (.i kd a) ps t z e h N := fp_at (cs := [.i kd a]) rfl rfl rfl
theorem fp_b {q : Bool} : FP P off 1 (.b q) ps t z e h N = if off + 1 ≤ z.length then FL P ps t (z.take off ++ (.b q :: z.drop (off + 1))) e h N else FPJ P off 1 (.b q) ps t z e h N := fp_at (cs := [.b q]) rfl rfl rfl
theorem fp_sv {s : List UInt8} : FP P off 1 (sv s) ps t z e h N = if off + 1 ≤ z.length then FL P ps t (z.take off ++ (sv s :: z.drop (off + 1))) e h N else FPJ P off 1 (sv s) ps t z e h N := fp_at (cs := [sv s]) rfl rfl rfl
theorem fp_p {id : B} {g o fin : Nat} : FP P off 1 (.p id g o fin) ps t z e h N = if off + 1 ≤ z.length then FL P ps t (z.take off ++ (.p id g o fin :: z.drop (off + 1))) e h N else FPJ P off 1 (.p id g o fin) ps t z e h N := fp_at (cs := [.p id g o fin]) rfl rfl rfl
theorem fp_l {id : B} {g o len fin : Nat} {cap : Option Nat} : FP P off 1 (.l id g o len fin cap) ps t z e h N = if off + 1 ≤ z.length then FL P ps t (z.take off ++ (.l id g o len fin cap :: z.drop (off + 1))) e h N else FPJ P off 1 (.l id g o len fin cap) ps t z e h N := fp_at (cs := [.l id g o len fin cap]) rfl rfl rfl
theorem fp_l0 : FP P off 1 .l0 ps t z e h N = if off + 1 ≤ z.length then FL P ps t (z.take off ++ (.l0 :: z.drop (off + 1))) e h N else FPJ P off 1 .l0 ps t z e h N := fp_at (cs := [.l0]) rfl rfl rfl
theorem fp_a {size : Nat} {cs : List V} : FP P off size (.a cs) ps t z e h N = if cs.length = size ∧ off + size ≤ z.length then FL P ps t (z.take off ++ (cs ++ z.drop (off + size))) e h N else FPJ P off size (.a cs) ps t z e h N := by
  split
  · rename_i hb; exact fp_of rfl rfl hb.1 hb.2
  · rfl
end
theorem bx_i {kd : IntKind} {a : Int} : BX P el (.i kd a) h N = AL P el [.i kd a] (fun id => .p id 0 0 1) h N := rfl
theorem bx_b {q : Bool} : BX P el (.b q) h N = AL P el [.b q] (fun id => .p id 0 0 1) h N := rfl
theorem bx_sv {s : List UInt8} : BX P el (sv s) h N = AL P el [sv s] (fun id => .p id 0 0 1) h N := rfl
theorem bx_a {cs : List V} : BX P el (.a cs) h N = AL P el cs (fun id => .p id 0 0 cs.length) h N := rfl
theorem bx_p {id : B} {g o fin : Nat} : BX P el (.p id g o fin) h N = AL P el [.p id g o fin] (fun id => .p id 0 0 1) h N := rfl
theorem bx_l {id : B} {g o len fin : Nat} {cap : Option Nat} : BX P el (.l id g o len fin cap) h N = AL P el [.l id g o len fin cap] (fun id => .p id 0 0 1) h N := rfl
theorem bx_l0 : BX P el .l0 h N = AL P el [.l0] (fun id => .p id 0 0 1) h N := rfl
theorem ms_i {kd kd' : IntKind} {a b : Int} (h1 : 0 ≤ a) (h2 : a ≤ b) (h3 : b ≤ 1048576) : MS P el z (.i kd a) (.i kd' b) h N = AL P el (repL z b.toNat) (fun id => .l id 0 0 a.toNat (b.toNat * z.length) (some b.toNat)) h N := by
  have e1 : Nat.ble a.toNat b.toNat = true := by rw [Nat.ble_eq]; omega
  have e2 : Nat.ble b.toNat 1048576 = true := by rw [Nat.ble_eq]; omega
  have e : ∀ k : V → H → Bool, (vI (.i kd a) fun _ l => natK l fun l => vI (.i kd' b) fun _ c => natK c fun c => ifK (Nat.ble l c) fun _ => ifK (Nat.ble c 1048576) fun _ => alloc el (repL z c) h fun id h => k (.l id 0 0 l (Nat.mul c z.length) (some c)) h) =
      alloc el (repL z b.toNat) h fun id h => k (.l id 0 0 a.toNat (b.toNat * z.length) (some b.toNat)) h := fun k => by
    simp only [vI_i, natK_nn h1, natK_nn (Int.le_trans h1 h2), e1, e2, ifK_true]; rfl
  unfold MS AL
  simp only [e]
end
section
variable {P : Program} {h : H} {N : Nx} {id : B} {xs : List V} {j fin : Nat} {x y : V}
/-- at one place written -/
theorem ST.own (o : Own h id xs) (hc : cells x = [y]) (h1 : oneV y = true) (hj : j < fin) (hfit : j < 2 ^ 37) (k : ∀ h', Own h' id (xs.set j y) → Stay (fun i => i = id) h h' → N.go P (.tu []) h') : ST P 1 (.p id 0 j fin) x h N := by
  obtain ⟨h', a1, a2, a3⟩ := store_own o hj hfit h1
  refine hm_of (v := .tu []) (h' := h') (fun k => ?_) (k h' a2 a3)
  show ifK (Nat.beq (cells x).length 1) (fun _ => store h id 0 j fin (cells x) fun h => k (.tu []) h) = _
  rw [hc]
  show store h id 0 j fin [y] (fun h => k (.tu []) h) = _
  rw [a1]
theorem ST.buf {el : Nat} {v : V} (b : Buf h el 1 v xs) (tp : Top h v) (hc : cells x = [y]) (h1 : oneV y = true) (hj : j < xs.length) (hfit : j < 2 ^ 37) (k : ∀ h', Buf h' el 1 v (xs.set j y) → Top h' v → Stay (isOf v) h h' → N.go P (.tu []) h') : ST P 1 (.p (lid v) (lg v) (loff v + j) (lfin v)) x h N := by
  obtain ⟨h', a1, a2, a3, a4⟩ := store_buf b tp hj hfit h1
  refine hm_of (v := .tu []) (h' := h') (fun k => ?_) (k h' a2 a3 a4)
  show ifK (Nat.beq (cells x).length 1) (fun _ => store h _ _ _ _ (cells x) fun h => k (.tu []) h) = _
  rw [hc]
  show store h _ _ _ _ [y] (fun h => k (.tu []) h) = _
  rw [a1]
end
section
variable {P : Program} {t : F} {h : H} {K : F → H → Prop} {l : List CO} {N : Nx} {el n m lo : Nat} {s : O} {v y : V} {xs : List V} {id : B}
theorem AP.buf {size cnt : Nat} {x : V} {vs : List V} (b : Buf h el size v xs) (hx : ∀ k : Nat → List V → Bool, newCells size x h k = k cnt vs) (hf : B.val h.floor ≤ B.val h.next) (hsz : 1 ≤ size) (hn : vs.length = cnt * size) (h1 : allOne vs = true) (hb : xs.length + vs.length ≤ 1048576)
    (k : ∀ v' h', Buf h' el size v' (xs ++ vs) → Stay (isOf v) h h' → (∀ i, isOf v' i → isOf v i ∨ B.val h.next ≤ B.val i) → Top h' v' → N.go P v' h') : AP P el size v x h N := by
  obtain ⟨v', h', a1, a2, a3, a4, a5⟩ := append_top b hf hsz hn h1 hb
  exact hm_of (v := v') (h' := h') (fun k => by rw [hx, a1]) (k v' h' a2 a3 a4 a5)
theorem new_row {size : Nat} {fin cnt : Nat} {cap : Option Nat} {vs : List V} (r : Row h id 0 0 vs) (hn : vs.length = cnt * size) (hc : 1 ≤ cnt) (hs : 1 ≤ size) (hfin : vs.length ≤ fin) (k : Nat → List V → Bool) : newCells size (.l id 0 0 cnt fin cap) h k = k cnt vs := by
  obtain ⟨c, rfl⟩ : ∃ c, cnt = c + 1 := ⟨cnt - 1, by omega⟩
  have hne : vs ≠ [] := by
    intro e; subst e
    have := Nat.mul_le_mul hc hs
    simp at hn; omega
  show loadN h id 0 0 fin (Nat.mul (c + 1) size) (fun vs => k (c + 1) vs) = _
  rw [show Nat.mul (c + 1) size = vs.length by rw [hn]; rfl, loadN_row r rfl hne (by omega)]
/-- append(v, y): its literal, and it -/
theorem AL.push {b : Bool} (a : Vb h lo el v xs) (e3 : ∀ u, oV s (put m u t) = v) (hc : cells y = [y]) (h1 : oneV y = true) (hf : B.val h.floor ≤ B.val h.next) (hlo : lo ≤ B.val h.next) (hl : xs.length + 1 ≤ 1048576)
    (k : ∀ v' h' u, Vb h' lo el v' (xs ++ [y]) → Stay (isOf v) h h' → (∀ i, isOf v' i → isOf v i ∨ B.val h.next ≤ B.val i) → Top h' v' → WO P l (put n v' (put m u t)) h' K) :
    AL P el [y] (fun id => .l id 0 0 1 [y].length (some 1)) h (.w m (.mk .none (.some (slOf n)) b (.mk (doAppend el 1 s (.t (slOf m)))) :: l) t K) := by
  refine AL.own (by show 1 < 2 ^ 37; decide) hf fun h1' s1 n1 o1 => ?_
  rw [go_w, wo_c, or_append, e3, oV_t, get_put', if_pos rfl]
  refine AP.buf (vs := [y]) (cnt := 1) (a.buf.grow s1) (new_row o1.row rfl (Nat.le_refl _) (Nat.le_refl _) (Nat.le_refl _)) (s1.fl hf) (Nat.le_refl _) rfl (by show Bool.rec false true (oneV y) = true; rw [h1]) (by show xs.length + 1 ≤ _; exact hl) fun v' h' b1 s2 hv tp => ?_
  refine k v' h' _ ⟨b1, fun i hi => ?_⟩ ⟨s2.floor.trans s1.floor, Nat.le_trans s1.next s2.next, fun id' h1' h2 => (s2.get id' (Nat.lt_of_lt_of_le h1' s1.next) h2).trans (s1.get id' h1' fun h => h)⟩ (fun i hi => ?_) tp
  · rcases hv i hi with h2 | h2
    · exact a.own i h2
    · have := s1.next; omega
  · rcases hv i hi with h2 | h2
    · exact .inl h2
    · exact .inr (Nat.le_trans s1.next h2)
/-- string([]byte{..}) -/
theorem AL.str {b : Bool} {cs : List V} {bs : List UInt8} {len fin : Nat} {cap : Option Nat} (hc : cs = bs.map bv) (hne : bs ≠ []) (e1 : len = bs.length) (e2 : fin = bs.length) (hl : bs.length ≤ 1048576) (hf : B.val h.floor ≤ B.val h.next)
    (k : ∀ h' u, Stay nowhere h h' → WO P l (put n (sv bs) (put m u t)) h' K) : AL P el cs (fun id => .l id 0 0 len fin cap) h (.w m (.mk .none (.some (slOf n)) b (.mk (doB2S (.t (slOf m)))) :: l) t K) := by
  subst hc; subst e1; subst e2
  refine AL.own (by rw [List.length_map]; omega) hf fun h1' s1 n1 o1 => ?_
  have hL := o1.lst cap
  rw [List.length_map] at hL
  rw [go_w, wo_c, or_b2s, oV_t, get_put', if_pos rfl, hL.bs hne]
  exact k _ _ s1
theorem bv_i {a : Int} (h0 : 0 ≤ a) (h1 : a ≤ 255) : V.i .u8 a = bv (UInt8.ofNat a.toNat) := by
  obtain ⟨x, rfl⟩ := Int.eq_ofNat_of_zero_le h0
  rw [Int.toNat_natCast, ← bv_ofNat, Nat.mod_eq_of_lt (by omega)]
/-- []byte(text) -/
theorem SB.mk {c : List UInt8} (hf : B.val h.floor ≤ B.val h.next) (hl : c.length ≤ 1048576)
    (k : ∀ h', Stay nowhere h h' → B.val h'.next = B.val h.next + 1 → Lst h' (.l h.next 0 0 c.length c.length none) (c.map bv) → N.go P (.l h.next 0 0 c.length c.length none) h') : SB P el (sv c) h N := by
  obtain ⟨h', a1, a2, a3, a4, a5, a6⟩ := s2b_new el hf hl
  have := fun k => a1 (.c (sv c)) F.zero (fun _ _ _ _ => false) k rfl
  refine hm_of (v := .l h.next 0 0 c.length c.length none) (h' := h') (fun k => ?_) (k h' a2 a3 a5)
  have e := this k
  simp only [doS2B, oE_eq] at e
  exact e
end
/-! parts of a slice -/
section
variable {P : Program} {t : F} {h : H} {N : Nx} {x a : O} {id : B} {n K size : Nat} {kd : IntKind} {z : Int}
theorem or_slLo : OR P (doSlice size x (some a) none) t h N = H2 P (slLoV size) (oV x t) (oV a t) h N := or_hv fun cf k => ev_slLo ..
theorem or_slHi : OR P (doSlice size x none (some a)) t h N = H2 P (slHiV size) (oV x t) (oV a t) h N := or_hv fun cf k => ev_slHi ..
theorem h2_sliceArr {g off fin : Nat} (h0 : 0 ≤ z) (hn : z < n) : H2 P (gSliceArr n size) (.p id g off fin) (.i kd z) h N = N.go P (.l id g (off + z.toNat * size) (n - z.toNat) fin (some (n - z.toNat))) h := hv_of fun k => by
  show natK z (fun p => ifK (Nat.ble p n) fun _ => sliceC size id g off n fin n p n k) = _
  rw [natK_nn h0, ifBle (by omega), sliceC_mid (Nat.le_refl _) (by omega)]
theorem h2_slLo (h0 : 0 ≤ z) (hn : z ≤ K) : H2 P (slLoV 1) (.l id 0 0 K K (some K)) (.i kd z) h N = N.go P (tailV id K z.toNat) h := hv_of fun k => by
  obtain ⟨n, rfl⟩ := Int.eq_ofNat_of_zero_le h0
  exact slLo_row (by omega) k
theorem h2_slHi (h0 : 0 ≤ z) (hn : z ≤ K) (hK : 0 < K) : H2 P (slHiV 1) (.l id 0 0 K K (some K)) (.i kd z) h N = N.go P (.l id 0 0 z.toNat K (some K)) h := hv_of fun k => by
  obtain ⟨n, rfl⟩ := Int.eq_ofNat_of_zero_le h0
  exact slHi_row (by omega) hK k
end

/-! ### Calls -/
def CL (P : Program) (f : FuncId) (vs : List V) (h : H) (N : Nx) : Prop := ∃ Q, FnOk P f vs h Q ∧ ∀ v h', Q v h' → N.go P v h'
theorem CL.mk {P : Program} {f : FuncId} {vs : List V} {h : H} {N : Nx} {Q : V → H → Prop} (a : FnOk P f vs h Q) (k : ∀ v h', Q v h' → N.go P v h') : CL P f vs h N := ⟨Q, a, k⟩
/-- .. that leaves memory alone -/
theorem CL.pure {P : Program} {f : FuncId} {vs : List V} {h : H} {N : Nx} {e : V} (a : FnOk P f vs h fun y h' => y = e ∧ h' = h) (k : N.go P e h) : CL P f vs h N := ⟨_, a, fun v h' hq => by rw [hq.1, hq.2]; exact k⟩
/-- .. that makes blocks of its own alone -/
theorem CL.stay {P : Program} {f : FuncId} {vs : List V} {h : H} {N : Nx} {e : V} (a : FnOk P f vs h fun y h' => y = e ∧ Stay nowhere h h') (k : ∀ h', Stay nowhere h h' → N.go P e h') : CL P f vs h N := ⟨_, a, fun v h' hq => by rw [hq.1]; exact k h' hq.2⟩
theorem or_call {P : Program} {t : F} {h : H} {N : Nx} {f : FuncId} {args : List O} : OR P (doCall f args) t h N = CL P f (args.map fun o => oV o t) h N := by
  apply propext; constructor
  · rintro ⟨v, h', ⟨cf, c1, c2⟩, k⟩
    have c3 : ∀ k, cf f (args.map fun o => oV o t) h k = k v h' := fun k => by rw [← c2 k]; show _ = evalsK args t (fun vs => cf f vs h k); rw [evalsK_eq]
    obtain ⟨v', h'', e, r1, r2, r3⟩ := c1 f _ h (fun _ _ => true) (c3 _)
    obtain ⟨rfl, rfl⟩ := vh_of fun k => (c3 k).symm.trans (e k)
    refine ⟨fun v h => v = v' ∧ h = h'', ⟨v', h'', ⟨r1, r2, r3⟩, rfl, rfl⟩, ?_⟩
    rintro _ _ ⟨rfl, rfl⟩
    exact k
  · rintro ⟨Q, a, k⟩
    obtain ⟨v, h', c1, c2⟩ := cfS_call (S := fun _ _ _ v h' => Q v h') a
    exact ⟨v, h', ⟨_, cfS_ok P _, fun k => by show evalsK args t _ = _; rw [evalsK_eq, c1]⟩, k v h' c2⟩

/-! ### Conditions -/
def CD (v : V) (A B : Prop) : Prop := ∃ q, v = .b q ∧ (q = true → A) ∧ (q = false → B)
theorem Ok.cd {P : Program} {nt : Nat} {o : O} {a b : CC} {t : F} {h : H} {K : X → F → H → Prop} (c : CD (oV o t) (Ok P nt a t h K) (Ok P nt b t h K)) : Ok P nt (.cond o a b) t h K := by
  obtain ⟨q, hq, ha, hb⟩ := c
  exact Ok.cond hq ha hb
theorem cd_t {A B : Prop} : CD (.b true) A B = A := propext ⟨fun ⟨q, hq, ha, _⟩ => by cases hq; exact ha rfl, fun a => ⟨true, rfl, fun _ => a, fun h => by cases h⟩⟩
theorem cd_f {A B : Prop} : CD (.b false) A B = B := propext ⟨fun ⟨q, hq, _, hb⟩ => by cases hq; exact hb rfl, fun b => ⟨false, rfl, fun h => (by cases h), fun _ => b⟩⟩
theorem cd_split {q : Bool} {A B : Prop} (a : q = true → A) (b : q = false → B) : CD (.b q) A B := ⟨q, rfl, a, b⟩

/-! ### Sequences, blocks, loops -/
/-- behind the first part: b, then K -/
def Sq (P : Program) (nt : Nat) (b : CC) (K : X → F → H → Prop) : X → F → H → Prop
  | .normal, t, h => Ok P nt b t h K
  | x, t, h => K x t h
/-- the next round -/
def LpG (Inv : Nat → F → H → Prop) (m : Nat) (t : F) (h : H) : Prop := ∃ m', m' < m ∧ Inv m' t h
def LpK (Inv : Nat → F → H → Prop) (m : Nat) (K : X → F → H → Prop) : X → F → H → Prop
  | .normal, t, h => LpG Inv m t h
  | x, t, h => K x t h
section
variable {P : Program} {nt : Nat} {a b : CC} {t : F} {h : H} {K : X → F → H → Prop} {Inv : Nat → F → H → Prop} {m j id : Nat}
theorem Ok.sq (k : Ok P nt a t h (Sq P nt b K)) : Ok P nt (.seq a b) t h K := Ok.seq (k.mono fun x t h => by cases x <;> exact fun h => h)
theorem sq_n : Sq P nt b K .normal t h = Ok P nt b t h K := rfl
theorem sq_e : Sq P nt b K (.exit j) t h = K (.exit j) t h := rfl
theorem sq_r : Sq P nt b K .ret t h = K .ret t h := rfl
theorem lp_n : LpK Inv m K .normal t h = LpG Inv m t h := rfl
theorem lp_e : LpK Inv m K (.exit j) t h = K (.exit j) t h := rfl
theorem lp_r : LpK Inv m K .ret t h = K .ret t h := rfl
def IsI (I Inv : Nat → F → H → Prop) : Prop := I = Inv
/-- a loop: the invariant, with a measure that falls -/
theorem Ok.lp (Inv : Nat → F → H → Prop) (m : Nat) (i : Inv m t h) (round : ∀ I : Nat → F → H → Prop, IsI I Inv → ∀ m t h, Inv m t h → Ok P nt a t h (LpK I m K)) : Ok P nt (.loop a) t h K :=
  Ok.loop Inv (fun m t h hi => (round Inv rfl m t h hi).mono fun x t h => by cases x <;> exact fun h => h) m t h i
theorem lp_next {I : Nat → F → H → Prop} (e : IsI I Inv) (m' : Nat) (hm : m' < m) (k : Inv m' t h) : LpG I m t h := by have e' : I = Inv := e; subst e'; exact ⟨m', hm, k⟩
end

/-! ### Results -/
def FnK (rs : List Rs) (Q : V → H → Prop) : X → F → H → Prop := fun x t' h' => match x with
  | .exit _ => False
  | _ => ∃ us, (∀ k : List V → Bool, resK rs t' h' k = k us) ∧ Q (one us) h'
theorem fn_go {P : Program} {f : FuncId} {nt : Nat} {cc : CC} {rs : List Rs} {vs : List V} {h : H} {Q : V → H → Prop} (hc : compFn P f = ⟨nt, cc, rs⟩) (hbad : cc ≠ .bad) (hl1 : vs.length ≤ nt) (hl2 : vs.length ≤ 512)
    (ok : ∀ Q', Q' = Q → Ok P nt cc (slotsF vs 0 F.zero) h (FnK rs Q')) : FnOk P f vs h Q := fn_run hc hbad hl1 hl2 (ok Q rfl)
section
variable {Q : V → H → Prop} {t : F} {h : H} {n m p q : Nat}
theorem fnk_of {rs : List Rs} {us : List V} (e : ∀ k : List V → Bool, resK rs t h k = k us) : FnK rs Q .ret t h = Q (one us) h :=
  propext ⟨fun ⟨vs, e', k⟩ => by have := l_of fun k => (e k).symm.trans (e' k); subst this; exact k, fun k => ⟨us, e, k⟩⟩
theorem fnk_n {rs : List Rs} : FnK rs Q .normal t h = FnK rs Q .ret t h := rfl
theorem fnk_0 : FnK [] Q .ret t h = Q (.tu []) h := fnk_of (us := []) fun k => rfl
theorem fnk_1 : FnK [Rs.tmp (slOf n)] Q .ret t h = Q (get n t) h := fnk_of (us := [_]) fun k => res_1 ..
theorem fnk_2 : FnK [Rs.tmp (slOf n), Rs.tmp (slOf m)] Q .ret t h = Q (.tu [get n t, get m t]) h := fnk_of (us := [_, _]) fun k => res_2 ..
theorem fnk_3 : FnK [Rs.tmp (slOf n), Rs.tmp (slOf m), Rs.tmp (slOf p)] Q .ret t h = Q (.tu [get n t, get m t, get p t]) h := fnk_of (us := [_, _, _]) fun k => res_3 ..
theorem fnk_4 : FnK [Rs.tmp (slOf n), Rs.tmp (slOf m), Rs.tmp (slOf p), Rs.tmp (slOf q)] Q .ret t h = Q (.tu [get n t, get m t, get p t, get q t]) h := fnk_of (us := [_, _, _, _]) fun k => by
  show forceV (sGet (slOf n) t) (fun v => forceV (sGet (slOf m) t) fun u => forceV (sGet (slOf p) t) fun w => forceV (sGet (slOf q) t) fun z => k [v, u, w, z]) = _
  rw [forceV_eq, forceV_eq, forceV_eq, forceV_eq]; rfl
end
/-- results, the first out of a box -/
def RA (Q : V → H → Prop) (size : Nat) (v : V) (us : List V) (h : H) : Prop := ∃ vs, (∀ k : List V → Bool, (vP v fun id g off fin => loadN h id g off fin size k) = k vs) ∧ Q (one (.a vs :: us)) h
section
variable {Q : V → H → Prop} {t : F} {h : H} {n m p q size : Nat}
theorem ra_of {rs : List Rs} {us : List V} (e : ∀ (k : List V → Bool), (rsK (Rs.cellA (slOf n) size) t h fun w => resK rs t h fun vs => k (w :: vs)) = vP (get n t) fun id g off fin => loadN h id g off fin size fun vs => k (.a vs :: us)) : FnK (Rs.cellA (slOf n) size :: rs) Q .ret t h = RA Q size (get n t) us h := by
  refine propext ⟨fun ⟨ws, e', k⟩ => ?_, fun ⟨vs, e', k⟩ => ⟨.a vs :: us, fun k => ?_, k⟩⟩
  · have e2 := fun k => (e k).symm.trans (e' k)
    have e3 := e2 (fun zs => true)
    obtain ⟨id, g, off, fin, hp⟩ : ∃ id g off fin, get n t = .p id g off fin := by
      revert e3
      cases get n t <;> intro e3 <;> first | exact ⟨_, _, _, _, rfl⟩ | exact Bool.noConfusion e3
    rw [hp] at e2 ⊢
    have e4 : ∀ k : List V → Bool, loadN h id g off fin size (fun vs => k (.a vs :: us)) = k ws := e2
    obtain ⟨vs, hv, _⟩ := loadN_ok (h := h) (id := id) (g := g) (off := off) (fin := fin) (n := size) (k := fun _ => true) (e4 fun _ => true)
    have : ws = .a vs :: us := l_of fun k => by rw [← e4 k, hv]
    subst this
    exact ⟨vs, hv, k⟩
  · have := e' fun vs => k (.a vs :: us)
    rw [← this]; exact e k
theorem fnk_A0 : FnK [Rs.cellA (slOf n) size] Q .ret t h = RA Q size (get n t) [] h := ra_of fun k => rfl
theorem fnk_A1 : FnK [Rs.cellA (slOf n) size, Rs.tmp (slOf m)] Q .ret t h = RA Q size (get n t) [get m t] h := ra_of fun k => by
  show (vP (get n t) fun id g off fin => loadN h id g off fin size fun vs => forceV (get m t) fun v => k [.a vs, v]) = _
  simp only [forceV_eq]
theorem fnk_A2 : FnK [Rs.cellA (slOf n) size, Rs.tmp (slOf m), Rs.tmp (slOf p)] Q .ret t h = RA Q size (get n t) [get m t, get p t] h := ra_of fun k => by
  show (vP (get n t) fun id g off fin => loadN h id g off fin size fun vs => forceV (get m t) fun v => forceV (get p t) fun u => k [.a vs, v, u]) = _
  simp only [forceV_eq]
theorem Own.ra {id : B} {xs us : List V} {fin : Nat} (o : Own h id xs) (hs : xs.length = size) (h1 : 1 ≤ size) (hf : size ≤ fin) : RA Q size (.p id 0 0 fin) us h = Q (one (.a xs :: us)) h := by
  have e : ∀ k : List V → Bool, loadN h id 0 0 fin size k = k xs := fun k => loadN_row o.row hs (by intro e; subst e; simp at hs; omega) (by omega) k
  refine propext ⟨fun ⟨vs, e', k⟩ => ?_, fun k => ⟨xs, e, k⟩⟩
  have : vs = xs := l_of fun k => (e k).symm.trans (e' k)
  subst this; exact k
end
theorem one_0 : one [] = .tu [] := rfl

/-! ### Kinds of ints -/
theorem wrap_u8 {n : Int} (h1 : 0 ≤ n) (h2 : n ≤ 255) : IntKind.u8.wrap n = n := by
  simp only [IntKind.wrap, IntKind.bits, IntKind.signed]; simp; omega
theorem wrap_u16 {n : Int} (h1 : 0 ≤ n) (h2 : n ≤ 65535) : IntKind.u16.wrap n = n := by
  simp only [IntKind.wrap, IntKind.bits, IntKind.signed]; simp; omega
theorem wrap_u32 {n : Int} (h1 : 0 ≤ n) (h2 : n ≤ 4294967295) : IntKind.u32.wrap n = n := by
  simp only [IntKind.wrap, IntKind.bits, IntKind.signed]; simp; omega
theorem wrap_u64 {n : Int} (h1 : 0 ≤ n) (h2 : n ≤ 18446744073709551615) : IntKind.u64.wrap n = n := by
  simp only [IntKind.wrap, IntKind.bits, IntKind.signed]; simp; omega
theorem wrap_i32 {n : Int} (h1 : -2147483648 ≤ n) (h2 : n ≤ 2147483647) : IntKind.i32.wrap n = n := by
  simp only [IntKind.wrap, IntKind.bits, IntKind.signed]; simp; omega
theorem wrap_u8m {n : Int} : IntKind.u8.wrap n = n % 256 := by
  simp only [IntKind.wrap, IntKind.bits, IntKind.signed]; simp
theorem wrap_u32m {n : Int} : IntKind.u32.wrap n = n % 4294967296 := by
  simp only [IntKind.wrap, IntKind.bits, IntKind.signed]; simp
theorem wrap_i64c (c : UInt8) : IntKind.i64.wrap (c.toNat : Int) = (c.toNat : Int) := wrap_i64 (by omega) (by have := c.toNat_lt; omega)
theorem wrap_u8c (c : UInt8) : IntKind.u8.wrap (c.toNat : Int) = (c.toNat : Int) := wrap_u8 (by omega) (by have := c.toNat_lt; omega)
theorem wrap_u16c (c : UInt8) : IntKind.u16.wrap (c.toNat : Int) = (c.toNat : Int) := wrap_u16 (by omega) (by have := c.toNat_lt; omega)
theorem wrap_u32c (c : UInt8) : IntKind.u32.wrap (c.toNat : Int) = (c.toNat : Int) := wrap_u32 (by omega) (by have := c.toNat_lt; omega)
theorem wrap_u64c (c : UInt8) : IntKind.u64.wrap (c.toNat : Int) = (c.toNat : Int) := wrap_u64 (by omega) (by have := c.toNat_lt; omega)
theorem bits_i64 : IntKind.bits .i64 = 64 := rfl
theorem bits_u64 : IntKind.bits .u64 = 64 := rfl
theorem bits_u32 : IntKind.bits .u32 = 32 := rfl
theorem bits_u16 : IntKind.bits .u16 = 16 := rfl
theorem bits_u8 : IntKind.bits .u8 = 8 := rfl
theorem bits_i32 : IntKind.bits .i32 = 32 := rfl
end Go.Ev
