/- Texts of ours, without what this claim does not use: Wc Wd We Wf Wn Ws Wr JrShU Base NShU Wo NShK NShL Wg NShY EvSp EnSp Wq JrCp JrCl. No condition. -/
import Derived.Test.YtiokhkainaodnaaGreatDoorPkDP4
import Derived.Maps.RangeRun
import Derived.Test.YtiokhkainaodnaaGreatDoorProg
import Derived.KernelRfl
import Derived.Test.YtiokhkainaodnaaGreatDoorChecked
import Derived.StringKeys
set_option linter.all false
namespace Go.Ev
open Go
/-- frames -/
noncomputable def gpJunk (n m : Nat) (v : V) (t : F) : V := get n (put m v t)
theorem get_put' (n m : Nat) (v : V) (t : F) : get n (put m v t) = if n = m then v else if n < 512 ∧ m < 512 then get n t else gpJunk n m v t := by
  by_cases h : n < 512 ∧ m < 512
  · rw [get_put n m v t h.1 h.2, if_pos h]
  · rw [if_neg h]
    by_cases e : n = m
    · subst e
      rw [if_pos rfl]
      exact (Classical.choose_spec (sPut_ok (slOf n) v t)).2.1
    · rw [if_neg e]; rfl
section
variable {P : Program} {h : H} {N : Nx} {kd : IntKind} {a b : Int}
theorem h2_add : H2 P (gBin fAdd) (.i kd a) (.i kd b) h N = N.go P (.i kd (kd.wrap (a + b))) h := hv_of fun k => by show ifK (kdEq kd kd) _ = _; rw [kdEq_self, ifK_true, f_add]
theorem h2_sub : H2 P (gBin fSub) (.i kd a) (.i kd b) h N = N.go P (.i kd (kd.wrap (a - b))) h := hv_of fun k => by show ifK (kdEq kd kd) _ = _; rw [kdEq_self, ifK_true, f_sub]
theorem h2_mul : H2 P (gBin fMul) (.i kd a) (.i kd b) h N = N.go P (.i kd (kd.wrap (a * b))) h := hv_of fun k => by show ifK (kdEq kd kd) _ = _; rw [kdEq_self, ifK_true, f_mul]
theorem h2_lss : H2 P (gBin fLss) (.i kd a) (.i kd b) h N = N.go P (.b (decide (a < b))) h := hv_of fun k => by show ifK (kdEq kd kd) _ = _; rw [kdEq_self, ifK_true, f_lss]
theorem h2_gtr : H2 P (gBin fGtr) (.i kd a) (.i kd b) h N = N.go P (.b (decide (b < a))) h := hv_of fun k => by show ifK (kdEq kd kd) _ = _; rw [kdEq_self, ifK_true, f_gtr]
theorem h2_leq : H2 P (gBin fLeq) (.i kd a) (.i kd b) h N = N.go P (.b (decide (a ≤ b))) h := hv_of fun k => by show ifK (kdEq kd kd) _ = _; rw [kdEq_self, ifK_true, f_leq]
theorem h2_geq : H2 P (gBin fGeq) (.i kd a) (.i kd b) h N = N.go P (.b (decide (b ≤ a))) h := hv_of fun k => by show ifK (kdEq kd kd) _ = _; rw [kdEq_self, ifK_true, f_geq]
theorem h2_eql : H2 P (gBin fEql) (.i kd a) (.i kd b) h N = N.go P (.b (decide (a = b))) h := hv_of fun k => by show ifK (kdEq kd kd) _ = _; rw [kdEq_self, ifK_true, f_eql]
theorem h2_neq : H2 P (gBin fNeq) (.i kd a) (.i kd b) h N = N.go P (.b (!decide (a = b))) h := hv_of fun k => by show ifK (kdEq kd kd) _ = _; rw [kdEq_self, ifK_true, f_neq]
theorem h2_quo (ha : 0 ≤ a) (hb : 0 < b) : H2 P (gBin fQuo) (.i kd a) (.i kd b) h N = N.go P (.i kd (kd.wrap (a / b))) h := hv_of fun k => by
  show ifK (kdEq kd kd) _ = _
  rw [kdEq_self, ifK_true]
  have e : eqI b 0 = false := by rw [eqI_eq]; simp; omega
  unfold fQuo
  rw [e]
  show wrapF (Int.tdiv a b) kd (mxOf kd) k = _
  rw [wrapF_eq, Int.tdiv_eq_ediv_of_nonneg ha]
theorem h2_rem (ha : 0 ≤ a) (hb : 0 < b) : H2 P gRem (.i kd a) (.i kd b) h N = N.go P (.i kd (a % b)) h := hv_of fun k => by
  show ifK (kdEq kd kd) (fun _ => fRem kd a b k) = _
  rw [kdEq_self, ifK_true]
  have e : eqI b 0 = false := by rw [eqI_eq]; simp; omega
  unfold fRem
  rw [e]
  show forceI (Int.tmod a b) (fun n => k (.i kd n)) = _
  rw [forceI_eq, Int.tmod_eq_emod_of_nonneg ha]
theorem h2_and {m : Nat} (hm : mxOf kd = m) (ha : 0 ≤ a) (ha2 : a ≤ m) (hb : 0 ≤ b) (hb2 : b ≤ m) : H2 P (gBin fAnd) (.i kd a) (.i kd b) h N = N.go P (.i kd ((a.toNat &&& b.toNat : Nat) : Int)) h := hv_of fun k => by
  show ifK (kdEq kd kd) _ = _
  rw [kdEq_self, ifK_true]
  obtain ⟨x, rfl⟩ := Int.eq_ofNat_of_zero_le ha
  obtain ⟨y, rfl⟩ := Int.eq_ofNat_of_zero_le hb
  have e1 : Nat.ble x (mxOf kd) = true := by rw [Nat.ble_eq]; omega
  have e2 : Nat.ble y (mxOf kd) = true := by rw [Nat.ble_eq]; omega
  show natK (Int.ofNat x) (fun a => natK (Int.ofNat y) _) = _
  rw [natK_ofNat, natK_ofNat, e1, ifK_true, e2, ifK_true, fN_eq]; rfl
theorem h2_or {m : Nat} (hm : mxOf kd = m) (ha : 0 ≤ a) (ha2 : a ≤ m) (hb : 0 ≤ b) (hb2 : b ≤ m) : H2 P (gBin fOr) (.i kd a) (.i kd b) h N = N.go P (.i kd ((a.toNat ||| b.toNat : Nat) : Int)) h := hv_of fun k => by
  show ifK (kdEq kd kd) _ = _
  rw [kdEq_self, ifK_true]
  obtain ⟨x, rfl⟩ := Int.eq_ofNat_of_zero_le ha
  obtain ⟨y, rfl⟩ := Int.eq_ofNat_of_zero_le hb
  have e1 : Nat.ble x (mxOf kd) = true := by rw [Nat.ble_eq]; omega
  have e2 : Nat.ble y (mxOf kd) = true := by rw [Nat.ble_eq]; omega
  show natK (Int.ofNat x) (fun a => natK (Int.ofNat y) _) = _
  rw [natK_ofNat, natK_ofNat, e1, ifK_true, e2, ifK_true, fN_eq]; rfl
theorem h2_xor {m : Nat} (hm : mxOf kd = m) (ha : 0 ≤ a) (ha2 : a ≤ m) (hb : 0 ≤ b) (hb2 : b ≤ m) : H2 P (gBin fXor) (.i kd a) (.i kd b) h N = N.go P (.i kd ((a.toNat ^^^ b.toNat : Nat) : Int)) h := hv_of fun k => by
  show ifK (kdEq kd kd) _ = _
  rw [kdEq_self, ifK_true]
  obtain ⟨x, rfl⟩ := Int.eq_ofNat_of_zero_le ha
  obtain ⟨y, rfl⟩ := Int.eq_ofNat_of_zero_le hb
  have e1 : Nat.ble x (mxOf kd) = true := by rw [Nat.ble_eq]; omega
  have e2 : Nat.ble y (mxOf kd) = true := by rw [Nat.ble_eq]; omega
  show natK (Int.ofNat x) (fun a => natK (Int.ofNat y) _) = _
  rw [natK_ofNat, natK_ofNat, e1, ifK_true, e2, ifK_true, fN_eq]; rfl
theorem h2_ant {m : Nat} (hm : mxOf kd = m) (ha : 0 ≤ a) (ha2 : a ≤ m) (hb : 0 ≤ b) (hb2 : b ≤ m) : H2 P (gBin fAnt) (.i kd a) (.i kd b) h N = N.go P (.i kd ((a.toNat ^^^ (a.toNat &&& b.toNat) : Nat) : Int)) h := hv_of fun k => by
  show ifK (kdEq kd kd) _ = _
  rw [kdEq_self, ifK_true]
  obtain ⟨x, rfl⟩ := Int.eq_ofNat_of_zero_le ha
  obtain ⟨y, rfl⟩ := Int.eq_ofNat_of_zero_le hb
  have e1 : Nat.ble x (mxOf kd) = true := by rw [Nat.ble_eq]; omega
  have e2 : Nat.ble y (mxOf kd) = true := by rw [Nat.ble_eq]; omega
  show natK (Int.ofNat x) (fun a => natK (Int.ofNat y) _) = _
  rw [natK_ofNat, natK_ofNat, e1, ifK_true, e2, ifK_true, fN_eq]; rfl
theorem h2_shl {kd' : IntKind} (hb : 0 ≤ b) : H2 P (gShift shlF) (.i kd a) (.i kd' b) h N = N.go P (.i kd (kd.wrap (a * ((2 ^ (min b.toNat kd.bits) : Nat) : Int)))) h := hv_of fun k => by
  show natK b _ = _
  rw [natK_nn hb, f_shl]
theorem h2_shr {kd' : IntKind} (hb : 0 ≤ b) : H2 P (gShift shrF) (.i kd a) (.i kd' b) h N = N.go P (.i kd (a / ((2 ^ (min b.toNat kd.bits) : Nat) : Int))) h := hv_of fun k => by
  show natK b _ = _
  rw [natK_nn hb]
  show forceI (Int.fdiv a ((2 ^ _ : Nat) : Int)) (fun n => k (.i kd n)) = _
  rw [forceI_eq, Int.fdiv_eq_ediv_of_nonneg _ (Int.natCast_nonneg _)]
theorem h2_beq {x y : Bool} : H2 P (gBool false) (.b x) (.b y) h N = N.go P (.b (x == y)) h := hv_of fun k => by cases x <;> cases y <;> rfl
theorem h2_bne {x y : Bool} : H2 P (gBool true) (.b x) (.b y) h N = N.go P (.b (x != y)) h := hv_of fun k => by cases x <;> cases y <;> rfl
theorem h1_not {x : Bool} : H1 P gNot (.b x) h N = N.go P (.b (!x)) h := hv_of fun k => rfl
theorem h1_neg : H1 P gNeg (.i kd a) h N = N.go P (.i kd (kd.wrap (-a))) h := hv_of fun k => wrapF_eq _ _ _
theorem h1_conv {kd' : IntKind} : H1 P (gConv kd) (.i kd' a) h N = N.go P (.i kd (kd.wrap a)) h := hv_of fun k => rfl
theorem h1_ext0 {v : V} {vs : List V} : H1 P (gExt 0) (.tu (v :: vs)) h N = N.go P v h := hv_of fun k => rfl
theorem h1_ext1 {u v : V} {vs : List V} : H1 P (gExt 1) (.tu (u :: v :: vs)) h N = N.go P v h := hv_of fun k => rfl
theorem h1_ext2 {u w v : V} {vs : List V} : H1 P (gExt 2) (.tu (u :: w :: v :: vs)) h N = N.go P v h := hv_of fun k => rfl
theorem h1_ext3 {u w z v : V} {vs : List V} : H1 P (gExt 3) (.tu (u :: w :: z :: v :: vs)) h N = N.go P v h := hv_of fun k => rfl
theorem h2_min : H2 P gMin (.i kd a) (.i kd b) h N = N.go P (.i kd (min a b)) h := hv_of fun k => by show ifK (kdEq kd kd) _ = _; rw [kdEq_self, ifK_true]
theorem h2_max : H2 P gMax (.i kd a) (.i kd b) h N = N.go P (.i kd (max a b)) h := hv_of fun k => by show ifK (kdEq kd kd) _ = _; rw [kdEq_self, ifK_true]
theorem h3_pick {q : Bool} {x y : V} : H3 P gPick (.b q) x y h N = N.go P (cond q x y) h := hv_of fun k => rfl
def FDJ (P : Program) (d : Nat) (cs : List V) (h : H) (N : Nx) : Prop := H1 P (gField d) (.a cs) h N
theorem h1_field {d : Nat} {cs : List V} : H1 P (gField d) (.a cs) h N = if d < cs.length then N.go P (cs.getD d .u) h else FDJ P d cs h N := by
  split
  · rename_i hd
    exact hv_of fun k => by
      show optK (cs[d]?) k = _
      rw [show cs[d]? = some (cs.getD d .u) by simp [hd]]; rfl
  · rfl
theorem h1_fieldA {d size : Nat} {cs : List V} : H1 P (gFieldA d size) (.a cs) h N = N.go P (.a ((cs.drop d).take size)) h := hv_of fun k => rfl
theorem h1_fieldAddr {d : Nat} {id : B} {g off fin : Nat} : H1 P (gFieldAddr d) (.p id g off fin) h N = N.go P (.p id g (off + d) fin) h := hv_of fun k => rfl
theorem h1_nilCheck {id : B} {g off fin : Nat} : H1 P gNilCheck (.p id g off fin) h N = N.go P (.p id g off fin) h := hv_of fun k => rfl
/-- an element's place -/
def IX (P : Program) (size : Nat) (v : V) (i : Nat) (h : H) (N : Nx) : Prop := HV P (idxV size v i) h N
theorem h2_idx {size : Nat} {v : V} (ha : 0 ≤ a) : H2 P (gIndex size) v (.i kd a) h N = IX P size v a.toNat h N := by
  unfold H2 IX
  congr 1
  funext k
  show natK a _ = _
  rw [natK_nn ha]
theorem ix_l {size i : Nat} {id : B} {g off len fin : Nat} {cap : Option Nat} (hi : i < len) : IX P size (.l id g off len fin cap) i h N = N.go P (.p id g (off + i * size) fin) h := hv_of fun k => by
  show ifK (Nat.ble (i + 1) len) (fun _ => k (.p id g (off + i * size) fin)) = _
  have : Nat.ble (i + 1) len = true := by rw [Nat.ble_eq]; exact hi
  rw [this, ifK_true]
theorem h2_idxArr {len size : Nat} {id : B} {g off fin : Nat} (ha : 0 ≤ a) (hl : a < len) : H2 P (gIndexArr len size) (.p id g off fin) (.i kd a) h N = N.go P (.p id g (off + a.toNat * size) fin) h := hv_of fun k => by
  show natK a _ = _
  rw [natK_nn ha, arrIx (by omega)]
theorem gLen_l0 : H1 P gLen .l0 h N = N.go P (.i .i64 0) h := hv_of fun k => rfl
theorem gLen_l {id : B} {g off len fin : Nat} {cap : Option Nat} : H1 P gLen (.l id g off len fin cap) h N = N.go P (.i .i64 (len : Int)) h := hv_of fun k => rfl
theorem h1_lenS {l : List UInt8} : H1 P gLenS (sv l) h N = N.go P (.i .i64 (l.length : Int)) h := hv_of fun k => rfl
theorem h2_sindex {l : List UInt8} (ha : 0 ≤ a) (hl : a < l.length) : H2 P gSIndex (sv l) (.i kd a) h N = N.go P (.i .u8 ((l.getD a.toNat 0).toNat : Int)) h := hv_of fun k => by
  show natK a _ = _
  rw [natK_nn ha, sixV_sv (by omega)]
theorem h2_aindex {len size : Nat} {cs : List V} (ha : 0 ≤ a) (hl : a < len) (hc : a.toNat * size < cs.length) : H2 P (gAIndex len size) (.a cs) (.i kd a) h N = N.go P (cs.getD (a.toNat * size) .u) h := hv_of fun k => by
  show natK a _ = _
  have : Nat.ble (a.toNat + 1) len = true := by rw [Nat.ble_eq]; omega
  rw [natK_nn ha]
  show ifK (Nat.ble (a.toNat + 1) len) (fun _ => optK (cs[a.toNat * size]?) k) = _
  rw [this, ifK_true, show cs[a.toNat * size]? = some (cs.getD (a.toNat * size) .u) by simp [hc]]; rfl
theorem h2_cat {x y : List UInt8} (hl : x.length + y.length ≤ 1048576) : H2 P catV (sv x) (sv y) h N = N.go P (sv (x ++ y)) h := hv_of fun k => catV_sv hl k
theorem h2_seq {x y : List UInt8} : H2 P (scV eqS) (sv x) (sv y) h N = N.go P (.b (decide (x = y))) h := hv_of fun k => scV_eq x y k
theorem h2_sne {x y : List UInt8} : H2 P (scV fun a b c d => !eqS a b c d) (sv x) (sv y) h N = N.go P (.b (!decide (x = y))) h := hv_of fun k => scV_ne x y k
theorem h2_cmpS {x y : List UInt8} : H2 P cmV (sv x) (sv y) h N = N.go P (.i .i64 (cmpI (decide (x = y)) (Op.bytesLess x y))) h := hv_of fun k => cmV_sv x y k
theorem h2_minS {x y : List UInt8} : H2 P (gMMS fun a b c d => ltS a b c d || eqS a b c d) (sv x) (sv y) h N = N.go P (sv (bif Op.bytesLess x y || decide (x = y) then x else y)) h := hv_of fun k => by
  have e : (ltS x.length (pk x) y.length (pk y) || eqS x.length (pk x) y.length (pk y)) = (Op.bytesLess x y || decide (x = y)) := by rw [eqS_sv, bytesLess_pk]
  rw [← e]; unfold gMMS; rw [vS_sv, vS_sv]
  show boolK (ltS x.length (pk x) y.length (pk y) || eqS x.length (pk x) y.length (pk y)) _ _ = _
  generalize (ltS x.length (pk x) y.length (pk y) || eqS x.length (pk x) y.length (pk y)) = b
  cases b <;> rfl
theorem h2_maxS {x y : List UInt8} : H2 P (gMMS fun a b c d => !ltS a b c d) (sv x) (sv y) h N = N.go P (sv (bif Op.bytesLess x y then y else x)) h := hv_of fun k => by
  rw [bytesLess_pk]; unfold gMMS; rw [vS_sv, vS_sv]
  show boolK (!ltS x.length (pk x) y.length (pk y)) _ _ = _
  generalize ltS x.length (pk x) y.length (pk y) = b
  cases b <;> rfl
theorem h2_slt {x y : List UInt8} : H2 P (scV ltS) (sv x) (sv y) h N = N.go P (.b (Op.bytesLess x y)) h := hv_of fun k => scV_lt x y k
theorem h2_sge {x y : List UInt8} : H2 P (scV fun a b c d => !ltS a b c d) (sv x) (sv y) h N = N.go P (.b (!Op.bytesLess x y)) h := hv_of fun k => by
  unfold scV; rw [vS_sv, vS_sv, bytesLess_pk]
theorem h2_sle {x y : List UInt8} : H2 P (scV fun a b c d => ltS a b c d || eqS a b c d) (sv x) (sv y) h N = N.go P (.b (Op.bytesLess x y || decide (x = y))) h := hv_of fun k => by
  unfold scV; rw [vS_sv, vS_sv]; show k (.b (ltS x.length (pk x) y.length (pk y) || eqS x.length (pk x) y.length (pk y))) = _; rw [eqS_sv, bytesLess_pk]
theorem h2_sgt {x y : List UInt8} : H2 P (scV fun a b c d => !(ltS a b c d || eqS a b c d)) (sv x) (sv y) h N = N.go P (.b (!(Op.bytesLess x y || decide (x = y)))) h := hv_of fun k => by
  unfold scV; rw [vS_sv, vS_sv]; show k (.b (!(ltS x.length (pk x) y.length (pk y) || eqS x.length (pk x) y.length (pk y)))) = _; rw [eqS_sv, bytesLess_pk]
theorem h3_ss2 {l : List UInt8} {kd' : IntKind} (ha : 0 ≤ a) (hab : a ≤ b) (hb : b ≤ l.length) : H3 P gSS2 (sv l) (.i kd a) (.i kd' b) h N = N.go P (sv ((l.take b.toNat).drop a.toNat)) h := hv_of fun k => by
  show natK a (fun p => natK b fun q => ssV (sv l) p q k) = _
  rw [natK_nn ha, natK_nn (by omega), ssV_sv (by omega) (by omega)]
theorem h2_ss1 {l : List UInt8} (ha : 0 ≤ a) (hb : a ≤ l.length) : H2 P gSS1 (sv l) (.i kd a) h N = N.go P (sv (l.take a.toNat)) h := hv_of fun k => by
  show natK a (fun q => ssV (sv l) 0 q k) = _
  rw [natK_nn ha, ssV_sv (by omega) (by omega), List.drop_zero]
theorem h2_ssa {l : List UInt8} (ha : 0 ≤ a) (hb : a ≤ l.length) : H2 P gSSa (sv l) (.i kd a) h N = N.go P (sv (l.drop a.toNat)) h := hv_of fun k => by
  show natK a (fun p => ssaV (sv l) p k) = _
  rw [natK_nn ha, ssaV_sv (by omega)]
theorem h1_moveS {l : List UInt8} : H1 P gMoveS (sv l) h N = N.go P (sv l) h := hv_of fun k => rfl
theorem h2_nilL0 {ne : Bool} : H2 P (gNil vLN ne) .l0 .l0 h N = N.go P (.b (!ne)) h := hv_of fun k => by cases ne <;> rfl
theorem h2_nilL1 {ne : Bool} {id : B} {g off len fin : Nat} {cap : Option Nat} : H2 P (gNil vLN ne) (.l id g off len fin cap) .l0 h N = N.go P (.b ne) h := hv_of fun k => by cases ne <;> rfl
theorem h2_nilP0 {ne : Bool} : H2 P (gNil vPN ne) .p0 .p0 h N = N.go P (.b (!ne)) h := hv_of fun k => by cases ne <;> rfl
theorem h2_nilP1 {ne : Bool} {id : B} {g off fin : Nat} : H2 P (gNil vPN ne) (.p id g off fin) .p0 h N = N.go P (.b ne) h := hv_of fun k => by cases ne <;> rfl
end
noncomputable def gI2S (x : V) (k : V → Bool) : Bool := vI x fun _ n => natK n fun n => ifK (Nat.ble n 127) fun _ => k (.s 1 n)
theorem or_i2s {P : Program} {t : F} {h : H} {N : Nx} (x : O) : OR P (doI2S x) t h N = H1 P gI2S (oV x t) h N := or_hv fun cf k => by simp only [doI2S, oE_eq]; rfl
theorem sv_one {k : Nat} (h : k < 256) : V.s 1 k = sv [UInt8.ofNat k] := by
  unfold sv
  have : (UInt8.ofNat k).toNat = k := by simp; omega
  simp [pk, this]
theorem h1_i2s {P : Program} {h : H} {N : Nx} {kd : IntKind} {a : Int} (ha : 0 ≤ a) (hb : a ≤ 127) : H1 P gI2S (.i kd a) h N = N.go P (sv [UInt8.ofNat a.toNat]) h := hv_of fun k => by
  show natK a _ = _
  have e : Nat.ble a.toNat 127 = true := by rw [Nat.ble_eq]; omega
  rw [natK_nn ha, e, ifK_true, sv_one (by omega)]
def LD (P : Program) (v : V) (h : H) (N : Nx) : Prop := HV P (fun k => vP v fun id g off fin => load1 h id g off fin k) h N
def LA (P : Program) (size : Nat) (v : V) (h : H) (N : Nx) : Prop := HV P (fun k => vP v fun id g off fin => loadN h id g off fin size fun vs => k (.a vs)) h N
def L1 (P : Program) (id : B) (g off fin : Nat) (h : H) (N : Nx) : Prop := HV P (load1 h id g off fin) h N
def LN (P : Program) (id : B) (g off fin size : Nat) (h : H) (N : Nx) : Prop := HV P (fun k => loadN h id g off fin size fun vs => k (.a vs)) h N
def BS (P : Program) (v : V) (h : H) (N : Nx) : Prop := HV P (b2sV h v) h N
section
variable {P : Program} {t : F} {h : H} {N : Nx} {o x : O} {id : B} {g off fin size : Nat}
theorem or_load : OR P (doLoad o) t h N = LD P (oV o t) h N := or_hv fun cf k => ev_load ..
theorem or_loadA : OR P (doLoadA size o) t h N = LA P size (oV o t) h N := or_hv fun cf k => ev_loadA ..
theorem or_b2s : OR P (doB2S x) t h N = BS P (oV x t) h N := or_hv fun cf k => ev_b2s ..
theorem ld_p : LD P (.p id g off fin) h N = L1 P id g off fin h N := rfl
theorem la_p : LA P size (.p id g off fin) h N = LN P id g off fin size h N := rfl
theorem loadRe {h : H} (k : V → Bool) : load1 (reFloor h) id g off fin k = load1 h id g off fin k := by cases h; rfl
section
variable {n : Nat} {l : List CO} {K : F → H → Prop} {v : V}
theorem l1_re : L1 P id g off fin (reFloor h) (.u n l t h K) = L1 P id g off fin h (.d n l t K) := by
  unfold L1 HV
  simp only [loadRe, go_u, go_d, unFloor_re]
theorem ln_re : LN P id g off fin size (reFloor h) (.u n l t h K) = LN P id g off fin size h (.d n l t K) := by
  have e : ∀ k : List V → Bool, loadN (reFloor h) id g off fin size k = loadN h id g off fin size k := fun k => by cases h; rfl
  unfold LN HV
  simp only [e, go_u, go_d, unFloor_re]
theorem bs_re : BS P v (reFloor h) (.u n l t h K) = BS P v h (.d n l t K) := by
  have e : b2sV (reFloor h) v = b2sV h v := by cases h; rfl
  unfold BS HV
  simp only [e, go_u, go_d, unFloor_re]
end
theorem Row.l1 {xs : List V} (r : Row h id g 0 xs) (hi : off < xs.length) (hf : off < fin) : L1 P id g off fin h N = N.go P (xs.getD off .u) h := hv_of fun k =>
  load1_cell (by have := r.2 off (xs.getD off .u) (by simp [hi]); rwa [Nat.zero_add] at this) hf k
theorem Lst.ix {h0 : H} {v : V} {xs : List V} {i : Nat} (a : Lst h0 v xs) (hi : i < xs.length) : IX P 1 v i h N = N.go P (.p (lid v) (lg v) (loff v + i) (lfin v)) h := hv_of fun k => a.idx hi k
theorem Lst.ld {v : V} {xs : List V} {i : Nat} (a : Lst h v xs) (hi : i < xs.length) : L1 P (lid v) (lg v) (loff v + i) (lfin v) h N = N.go P (xs.getD i .u) h := hv_of fun k => load_lst a (by simp [hi]) k
theorem Il.ix {h0 : H} {v : V} {xs : List Int} {i : Nat} (a : Il h0 v xs) (hi : i < xs.length) : IX P 1 v i h N = N.go P (.p (lid v) (lg v) (loff v + i) (lfin v)) h := hv_of fun k => a.idx hi k
theorem Il.ld {v : V} {xs : List Int} {i : Nat} (a : Il h v xs) (hi : i < xs.length) : L1 P (lid v) (lg v) (loff v + i) (lfin v) h N = N.go P (.i .i64 (xs.getD i 0)) h := hv_of fun k => a.rd hi k
theorem Bl.ix {h0 : H} {v : V} {xs : List Bool} {i : Nat} (a : Bl h0 v xs) (hi : i < xs.length) : IX P 1 v i h N = N.go P (.p (lid v) (lg v) (loff v + i) (lfin v)) h := hv_of fun k => a.idx hi k
theorem Bl.ld {v : V} {xs : List Bool} {i : Nat} (a : Bl h v xs) (hi : i < xs.length) : L1 P (lid v) (lg v) (loff v + i) (lfin v) h N = N.go P (.b (xs.getD i false)) h := hv_of fun k => a.rd hi k
/-- a slice of texts -/
def Tl (h : H) (v : V) (xs : List (List UInt8)) : Prop := Lst h v (xs.map sv)
theorem Tl.grow {h h' : H} {v : V} {xs : List (List UInt8)} (a : Tl h v xs) (s : Stay nowhere h h') : Tl h' v xs := Lst.grow a s
theorem Tl.ix {h0 : H} {v : V} {xs : List (List UInt8)} {i : Nat} (a : Tl h0 v xs) (hi : i < xs.length) : IX P 1 v i h N = N.go P (.p (lid v) (lg v) (loff v + i) (lfin v)) h := Lst.ix a (by simpa using hi)
theorem Tl.ld {v : V} {xs : List (List UInt8)} {i : Nat} (a : Tl h v xs) (hi : i < xs.length) : L1 P (lid v) (lg v) (loff v + i) (lfin v) h N = N.go P (sv (xs.getD i [])) h := hv_of fun k => load_lst a (by simp [hi]) k
theorem Lst.bs {v : V} {l : List UInt8} (a : Lst h v (l.map bv)) (hne : l ≠ []) : BS P v h N = N.go P (sv l) h := hv_of fun k => b2s_lst a hne k
end
noncomputable def gSEq (ks : List KD) (ne : Bool) (x y : V) (k : V → Bool) : Bool := vA x fun xs => vA y fun ys => eqL ks xs ys fun r => k (.b (xor ne r))
section
variable {P : Program} {t : F} {h : H} {N : Nx} {ks : List KD} {ne : Bool} {kd : IntKind}
theorem or_sEq {x y : O} : OR P (doSEq ks ne x y) t h N = H2 P (gSEq ks ne) (oV x t) (oV y t) h N := or_hv fun cf k => by simp only [doSEq, oE_eq, fB_eq]; rfl
theorem eqL_s {a b : List UInt8} {xs ys : List V} {k : Bool → Bool} : eqL (.s :: ks) (sv a :: xs) (sv b :: ys) k = if a = b then eqL ks xs ys k else k false := by
  show boolK (eqS a.length (pk a) b.length (pk b)) (fun _ => (fun r => boolK r (fun _ => eqL ks xs ys k) (fun _ => k false)) true) (fun _ => (fun r => boolK r (fun _ => eqL ks xs ys k) (fun _ => k false)) false) = _
  rw [eqS_sv]
  by_cases e : a = b
  · rw [if_pos e, decide_eq_true e]; rfl
  · rw [if_neg e, decide_eq_false e]; rfl
theorem eqL_i {a b : Int} {xs ys : List V} {k : Bool → Bool} : eqL (.i :: ks) (.i kd a :: xs) (.i kd b :: ys) k = if a = b then eqL ks xs ys k else k false := by
  show ifK (kdEq kd kd) (fun _ => boolK (eqI a b) (fun _ => (fun r => boolK r (fun _ => eqL ks xs ys k) (fun _ => k false)) true) (fun _ => (fun r => boolK r (fun _ => eqL ks xs ys k) (fun _ => k false)) false)) = _
  rw [kdEq_self, ifK_true, eqI_eq]
  by_cases e : a = b
  · rw [if_pos e, show (a == b) = true by simpa using e]; rfl
  · rw [if_neg e, show (a == b) = false by simpa using e]; rfl
theorem eqL_b {a b : Bool} {xs ys : List V} {k : Bool → Bool} : eqL (.b :: ks) (.b a :: xs) (.b b :: ys) k = if a = b then eqL ks xs ys k else k false := by
  cases a <;> cases b <;> rfl
theorem eqL_n {xs ys : List V} {k : Bool → Bool} : eqL [] xs ys k = k true := rfl
/-- an entry -/
theorem h2_sE {a b v w : List UInt8} {n m : Int} {d e : Bool} : H2 P (gSEq [.s, .i, .b, .s] ne) (.a [sv a, .i kd n, .b d, sv v]) (.a [sv b, .i kd m, .b e, sv w]) h N = N.go P (.b (xor ne (decide (a = b ∧ n = m ∧ d = e ∧ v = w)))) h := hv_of fun k => by
  unfold gSEq; rw [vA_a, vA_a]
  rw [eqL_s, eqL_i, eqL_b, eqL_s, eqL_n]
  by_cases h1 : a = b <;> by_cases h2 : n = m <;> by_cases h3 : d = e <;> by_cases h4 : v = w <;> simp [h1, h2, h3, h4]
/-- a write -/
theorem h2_sW {a b v w : List UInt8} {d e : Bool} : H2 P (gSEq [.s, .b, .s] ne) (.a [sv a, .b d, sv v]) (.a [sv b, .b e, sv w]) h N = N.go P (.b (xor ne (decide (a = b ∧ d = e ∧ v = w)))) h := hv_of fun k => by
  unfold gSEq; rw [vA_a, vA_a]
  rw [eqL_s, eqL_b, eqL_s, eqL_n]
  by_cases h1 : a = b <;> by_cases h3 : d = e <;> by_cases h4 : v = w <;> simp [h1, h3, h4]
/-- a pair -/
theorem h2_sP {a b v w : List UInt8} : H2 P (gSEq [.s, .s] ne) (.a [sv a, sv v]) (.a [sv b, sv w]) h N = N.go P (.b (xor ne (decide (a = b ∧ v = w)))) h := hv_of fun k => by
  unfold gSEq; rw [vA_a, vA_a]
  rw [eqL_s, eqL_s, eqL_n]
  by_cases h1 : a = b <;> by_cases h4 : v = w <;> simp [h1, h4]
end
/-- what comes with another memory -/
def HM (P : Program) (g : (V → H → Bool) → Bool) (N : Nx) : Prop := ∃ v h', (∀ k, g k = k v h') ∧ N.go P v h'
theorem or_hm {P : Program} {r : Run} {t : F} {h : H} {N : Nx} {g : (V → H → Bool) → Bool} (e : ∀ cf k, r cf t h k = g k) : OR P r t h N = HM P g N :=
  propext ⟨fun ⟨v, h', ⟨cf, _, c2⟩, k⟩ => ⟨v, h', fun k => (e cf k).symm.trans (c2 k), k⟩, fun ⟨v, h', c, k⟩ => ⟨v, h', ⟨_, cfSome P, fun k => (e _ k).trans (c k)⟩, k⟩⟩
theorem hm_of {P : Program} {g : (V → H → Bool) → Bool} {N : Nx} {v : V} {h' : H} (e : ∀ k, g k = k v h') (k : N.go P v h') : HM P g N := ⟨v, h', e, k⟩
/-- a new block of these cells; 'mk' of its name is what comes -/
def AL (P : Program) (el : Nat) (cs : List V) (mk : B → V) (h : H) (N : Nx) : Prop := HM P (fun k => alloc el cs h fun id h' => k (mk id) h') N
theorem AL.own {P : Program} {el : Nat} {cs : List V} {mk : B → V} {h : H} {N : Nx} (hl : cs.length < 2 ^ 37) (hf : B.val h.floor ≤ B.val h.next)
    (k : ∀ h', Stay nowhere h h' → B.val h'.next = B.val h.next + 1 → Own h' h.next cs → N.go P (mk h.next) h') : AL P el cs mk h N := by
  obtain ⟨h', a1, a2, a3, a4⟩ := alloc_own el cs h hl hf
  exact hm_of (fun k => a1 _) (k h' a2 a4 a3)
/-- a list of cells, filled: then 'f' of them -/
def FL (P : Program) (ps : List Pt) (t : F) (cs : List V) (el : Option (Nat × Nat)) (h : H) (N : Nx) : Prop := match el with
  | none => HM P (fun k => fillL ps t cs fun ds => k (.a ds) h) N
  | some (el, len) => HM P (fun k => fillL ps t cs fun ds => alloc el ds h fun id h' => k (.l id 0 0 len ds.length (some len)) h') N
def FP (P : Program) (off size : Nat) (v : V) (ps : List Pt) (t : F) (cs : List V) (el : Option (Nat × Nat)) (h : H) (N : Nx) : Prop := match el with
  | none => HM P (fun k => fillP off size (fillL ps) t cs (fun ds => k (.a ds) h) v) N
  | some (el, len) => HM P (fun k => fillP off size (fillL ps) t cs (fun ds => alloc el ds h fun id h' => k (.l id 0 0 len ds.length (some len)) h') v) N
/-- a block of one value -/
def BX (P : Program) (el : Nat) (v : V) (h : H) (N : Nx) : Prop := HM P (fun k => ifK (knownV v) fun _ => alloc el (cells v) h fun id h => k (.p id 0 0 (cells v).length) h) N
def ST (P : Program) (size : Nat) (p x : V) (h : H) (N : Nx) : Prop := HM P (fun k => vP p fun id g off fin => ifK (Nat.beq (cells x).length size) fun _ => store h id g off fin (cells x) fun h => k (.tu []) h) N
def MS (P : Program) (el : Nat) (z : List V) (l c : V) (h : H) (N : Nx) : Prop := HM P (fun k => vI l fun _ l => natK l fun l => vI c fun _ c => natK c fun c => ifK (Nat.ble l c) fun _ => ifK (Nat.ble c 1048576) fun _ => alloc el (repL z c) h fun id h => k (.l id 0 0 l (Nat.mul c z.length) (some c)) h) N
def AP (P : Program) (el size : Nat) (s x : V) (h : H) (N : Nx) : Prop := HM P (fun k => newCells size x h fun n vs => append2 el size s n vs h k) N
def AS (P : Program) (el : Nat) (s x : V) (h : H) (N : Nx) : Prop := HM P (fun k => newCellsS x fun n vs => append2 el 1 s n vs h k) N
def CP (P : Program) (size : Nat) (x y : V) (h : H) (N : Nx) : Prop := HM P (fun k => vL x (fun _ => copy0 y (k (.i .i64 (.ofNat 0)) h)) fun id g off len fin _ => copyTo size y h k id g off len fin) N
def SB (P : Program) (el : Nat) (x : V) (h : H) (N : Nx) : Prop := HM P (fun k => vS x fun l n => ifK (Nat.ble l 1048576) fun _ => unpK l n [] fun vs => alloc el vs h fun id h => markK h id fun h => k (.l id 0 0 l l (capF l)) h) N
section
variable {P : Program} {t : F} {h : H} {N : Nx} {o x y l c s : O} {el len size : Nat} {z : List V} {ps : List Pt}
theorem or_alloc : OR P (doAlloc el z) t h N = AL P el z (fun id => .p id 0 0 z.length) h N := or_hm fun cf k => rfl
theorem or_box : OR P (doBox el o) t h N = BX P el (oV o t) h N := or_hm fun cf k => by simp only [doBox, oK_eq]
theorem or_buildSlice : OR P (doBuildSlice el len z ps) t h N = FL P ps t z (some (el, len)) h N := or_hm fun cf k => rfl
theorem or_build : OR P (doBuild z ps) t h N = FL P ps t z none h N := or_hm fun cf k => rfl
theorem or_store : OR P (doStore size o x) t h N = ST P size (oV o t) (oV x t) h N := or_hm fun cf k => by simp only [doStore, oE_eq, oK_eq]
theorem or_makeSlice : OR P (doMakeSlice el z l c) t h N = MS P el z (oV l t) (oV c t) h N := or_hm fun cf k => by
  have no : ∀ u : V, (vI u fun _ n => natK n fun _ => false) = false := no1
  simp only [doMakeSlice, oE_eq]
theorem or_append : OR P (doAppend el size s x) t h N = AP P el size (oV s t) (oV x t) h N := or_hm fun cf k => by simp only [doAppend, oK_eq]
theorem or_appendS : OR P (doAppendS el s x) t h N = AS P el (oV s t) (oV x t) h N := or_hm fun cf k => by simp only [doAppendS, oK_eq]
/-- the whole of a text, copied into bytes -/
def CPS (P : Program) (x y : V) (h : H) (N : Nx) : Prop := HM P (fun k => vL x (fun _ => false) fun id g off len fin _ => natC len (fun _ => false) fun _ => copyToS y h k id g off len fin) N
theorem or_copyS {P : Program} {x y : O} {t : F} {h : H} {N : Nx} : OR P (doCopyS x y) t h N = CPS P (oV x t) (oV y t) h N := or_hm fun cf k => by simp only [doCopyS, oK_eq]
theorem or_copy : OR P (doCopy size x y) t h N = CP P size (oV x t) (oV y t) h N := or_hm fun cf k => by simp only [doCopy, oK_eq]
theorem or_s2b : OR P (doS2B el x) t h N = SB P el (oV x t) h N := or_hm fun cf k => by simp only [doS2B, oE_eq]
theorem fl_n : FL P [] t z none h N = N.go P (.a z) h := propext ⟨fun ⟨v, h', e, k⟩ => by obtain ⟨rfl, rfl⟩ := vh_of e; exact k, fun k => ⟨_, _, fun _ => rfl, k⟩⟩
theorem fl_s : FL P [] t z (some (el, len)) h N = AL P el z (fun id => .l id 0 0 len z.length (some len)) h N := rfl
theorem fl_c {e : Option (Nat × Nat)} {off size : Nat} : FL P (Pt.mk off size o :: ps) t z e h N = FP P off size (oV o t) ps t z e h N := by
  have e0 : ∀ k, fillL (⟨off, size, o⟩ :: ps) t z k = fillP off size (fillL ps) t z k (oV o t) := fun k => by show oK o t _ = _; rw [oK_eq]; rfl
  unfold FL FP
  simp only [e0]
theorem fp_of {e : Option (Nat × Nat)} {off size : Nat} {v : V} {cs : List V} (hk : knownV v = true) (hc : cells v = cs) (hs : cs.length = size) (hb : off + size ≤ z.length) : FP P off size v ps t z e h N = FL P ps t (z.take off ++ (cs ++ z.drop (off + size))) e h N := by
  have e0 : ∀ k, fillP off size (fillL ps) t z k v = fillL ps t (z.take off ++ (cs ++ z.drop (off + size))) k := fun k => by
    have h1 : Nat.beq (cells v).length size = true := by rw [hc, hs]; exact Nat.beq_refl _
    have h2 : Nat.ble (Nat.add off size) z.length = true := by rw [Nat.ble_eq]; exact hb
    unfold fillP
    rw [hk, ifK_true, h1, ifK_true, h2, ifK_true, hc]
    unfold putAt
    rw [app_eq, app_eq, hs]
  unfold FP FL
  simp only [e0]
section
variable {e : Option (Nat × Nat)} {off : Nat}
def FPJ (P : Program) (off size : Nat) (v : V) (ps : List Pt) (t : F) (cs : List V) (el : Option (Nat × Nat)) (h : H) (N : Nx) : Prop := FP P off size v ps t cs el h N
theorem fp_at {size : Nat} {v : V} {cs : List V} (hk : knownV v = true) (hc : cells v = cs) (hs : cs.length = size) : FP P off size v ps t z e h N = if off + size ≤ z.length then FL P ps t (z.take off ++ (cs ++ z.drop (off + size))) e h N else FPJ P off size v ps t z e h N := by
  split
  · rename_i hb; exact fp_of hk hc hs hb
  · rfl
theorem fp_i {kd : IntKind} {a : Int} : FP P off 1 (.i kd a) ps t z e h N = if off + 1 ≤ z.length then FL P ps t (z.take off ++ (.i kd a :: z.drop (off + 1))) e h N else FPJ P off 1 (.i kd a) ps t z e h N := fp_at (cs := [.i kd a]) rfl rfl rfl
theorem fp_b {q : Bool} : FP P off 1 (.b q) ps t z e h N = if off + 1 ≤ z.length then FL P ps t (z.take off ++ (.b q :: z.drop (off + 1))) e h N else FPJ P off 1 (.b q) ps t z e h N := fp_at (cs := [.b q]) rfl rfl rfl
theorem fp_sv {s : List UInt8} : FP P off 1 (sv s) ps t z e h N = if off + 1 ≤ z.length then FL P ps t (z.take off ++ (sv s :: z.drop (off + 1))) e h N else FPJ P off 1 (sv s) ps t z e h N := fp_at (cs := [sv s]) rfl rfl rfl
theorem fp_p {id : B} {g o fin : Nat} : FP P off 1 (.p id g o fin) ps t z e h N = if off + 1 ≤ z.length then FL P ps t (z.take off ++ (.p id g o fin :: z.drop (off + 1))) e h N else FPJ P off 1 (.p id g o fin) ps t z e h N := fp_at (cs := [.p id g o fin]) rfl rfl rfl
theorem fp_l {id : B} {g o len fin : Nat} {cap : Option Nat} : FP P off 1 (.l id g o len fin cap) ps t z e h N = if off + 1 ≤ z.length then FL P ps t (z.take off ++ (.l id g o len fin cap :: z.drop (off + 1))) e h N else FPJ P off 1 (.l id g o len fin cap) ps t z e h N := fp_at (cs := [.l id g o len fin cap]) rfl rfl rfl
theorem fp_l0 : FP P off 1 .l0 ps t z e h N = if off + 1 ≤ z.length then FL P ps t (z.take off ++ (.l0 :: z.drop (off + 1))) e h N else FPJ P off 1 .l0 ps t z e h N := fp_at (cs := [.l0]) rfl rfl rfl
theorem fp_a {size : Nat} {cs : List V} : FP P off size (.a cs) ps t z e h N = if cs.length = size ∧ off + size ≤ z.length then FL P ps t (z.take off ++ (cs ++ z.drop (off + size))) e h N else FPJ P off size (.a cs) ps t z e h N := by
  split
  · rename_i hb; exact fp_of rfl rfl hb.1 hb.2
  · rfl
end
theorem bx_i {kd : IntKind} {a : Int} : BX P el (.i kd a) h N = AL P el [.i kd a] (fun id => .p id 0 0 1) h N := rfl
theorem bx_b {q : Bool} : BX P el (.b q) h N = AL P el [.b q] (fun id => .p id 0 0 1) h N := rfl
theorem bx_sv {s : List UInt8} : BX P el (sv s) h N = AL P el [sv s] (fun id => .p id 0 0 1) h N := rfl
theorem bx_a {cs : List V} : BX P el (.a cs) h N = AL P el cs (fun id => .p id 0 0 cs.length) h N := rfl
theorem bx_p {id : B} {g o fin : Nat} : BX P el (.p id g o fin) h N = AL P el [.p id g o fin] (fun id => .p id 0 0 1) h N := rfl
theorem bx_l {id : B} {g o len fin : Nat} {cap : Option Nat} : BX P el (.l id g o len fin cap) h N = AL P el [.l id g o len fin cap] (fun id => .p id 0 0 1) h N := rfl
theorem bx_l0 : BX P el .l0 h N = AL P el [.l0] (fun id => .p id 0 0 1) h N := rfl
theorem ms_i {kd kd' : IntKind} {a b : Int} (h1 : 0 ≤ a) (h2 : a ≤ b) (h3 : b ≤ 1048576) : MS P el z (.i kd a) (.i kd' b) h N = AL P el (repL z b.toNat) (fun id => .l id 0 0 a.toNat (b.toNat * z.length) (some b.toNat)) h N := by
  have e1 : Nat.ble a.toNat b.toNat = true := by rw [Nat.ble_eq]; omega
  have e2 : Nat.ble b.toNat 1048576 = true := by rw [Nat.ble_eq]; omega
  have e : ∀ k : V → H → Bool, (vI (.i kd a) fun _ l => natK l fun l => vI (.i kd' b) fun _ c => natK c fun c => ifK (Nat.ble l c) fun _ => ifK (Nat.ble c 1048576) fun _ => alloc el (repL z c) h fun id h => k (.l id 0 0 l (Nat.mul c z.length) (some c)) h) =
      alloc el (repL z b.toNat) h fun id h => k (.l id 0 0 a.toNat (b.toNat * z.length) (some b.toNat)) h := fun k => by
    simp only [vI_i, natK_nn h1, natK_nn (Int.le_trans h1 h2), e1, e2, ifK_true]; rfl
  unfold MS AL
  simp only [e]
end
section
variable {P : Program} {h : H} {N : Nx} {id : B} {xs : List V} {j fin : Nat} {x y : V}
/-- at one place written -/
theorem ST.own (o : Own h id xs) (hc : cells x = [y]) (h1 : oneV y = true) (hj : j < fin) (hfit : j < 2 ^ 37) (k : ∀ h', Own h' id (xs.set j y) → Stay (fun i => i = id) h h' → N.go P (.tu []) h') : ST P 1 (.p id 0 j fin) x h N := by
  obtain ⟨h', a1, a2, a3⟩ := store_own o hj hfit h1
  refine hm_of (v := .tu []) (h' := h') (fun k => ?_) (k h' a2 a3)
  show ifK (Nat.beq (cells x).length 1) (fun _ => store h id 0 j fin (cells x) fun h => k (.tu []) h) = _
  rw [hc]
  show store h id 0 j fin [y] (fun h => k (.tu []) h) = _
  rw [a1]
theorem ST.buf {el : Nat} {v : V} (b : Buf h el 1 v xs) (tp : Top h v) (hc : cells x = [y]) (h1 : oneV y = true) (hj : j < xs.length) (hfit : j < 2 ^ 37) (k : ∀ h', Buf h' el 1 v (xs.set j y) → Top h' v → Stay (isOf v) h h' → N.go P (.tu []) h') : ST P 1 (.p (lid v) (lg v) (loff v + j) (lfin v)) x h N := by
  obtain ⟨h', a1, a2, a3, a4⟩ := store_buf b tp hj hfit h1
  refine hm_of (v := .tu []) (h' := h') (fun k => ?_) (k h' a2 a3 a4)
  show ifK (Nat.beq (cells x).length 1) (fun _ => store h _ _ _ _ (cells x) fun h => k (.tu []) h) = _
  rw [hc]
  show store h _ _ _ _ [y] (fun h => k (.tu []) h) = _
  rw [a1]
end
section
variable {P : Program} {t : F} {h : H} {K : F → H → Prop} {l : List CO} {N : Nx} {el n m lo : Nat} {s : O} {v y : V} {xs : List V} {id : B}
theorem AP.buf {size cnt : Nat} {x : V} {vs : List V} (b : Buf h el size v xs) (hx : ∀ k : Nat → List V → Bool, newCells size x h k = k cnt vs) (hf : B.val h.floor ≤ B.val h.next) (hsz : 1 ≤ size) (hn : vs.length = cnt * size) (h1 : allOne vs = true) (hb : xs.length + vs.length ≤ 1048576)
    (k : ∀ v' h', Buf h' el size v' (xs ++ vs) → Stay (isOf v) h h' → (∀ i, isOf v' i → isOf v i ∨ B.val h.next ≤ B.val i) → Top h' v' → N.go P v' h') : AP P el size v x h N := by
  obtain ⟨v', h', a1, a2, a3, a4, a5⟩ := append_top b hf hsz hn h1 hb
  exact hm_of (v := v') (h' := h') (fun k => by rw [hx, a1]) (k v' h' a2 a3 a4 a5)
/-- []byte(text) -/
theorem SB.mk {c : List UInt8} (hf : B.val h.floor ≤ B.val h.next) (hl : c.length ≤ 1048576)
    (k : ∀ h', Stay nowhere h h' → B.val h'.next = B.val h.next + 1 → Lst h' (.l h.next 0 0 c.length c.length (capF c.length)) (c.map bv) → N.go P (.l h.next 0 0 c.length c.length (capF c.length)) h') : SB P el (sv c) h N := by
  obtain ⟨h', a1, a2, a3, a4, a5, a6⟩ := s2b_new el hf hl
  have := fun k => a1 (.c (sv c)) F.zero (fun _ _ _ _ => false) k rfl
  refine hm_of (v := .l h.next 0 0 c.length c.length (capF c.length)) (h' := h') (fun k => ?_) (k h' a2 a3 a5)
  have e := this k
  simp only [doS2B, oE_eq] at e
  exact e
end
section
variable {P : Program} {t : F} {h : H} {N : Nx} {x a : O} {id : B} {n K size : Nat} {kd : IntKind} {z : Int}
theorem or_slLo : OR P (doSlice size x (some a) none) t h N = H2 P (slLoV size) (oV x t) (oV a t) h N := or_hv fun cf k => ev_slLo ..
theorem or_slHi : OR P (doSlice size x none (some a)) t h N = H2 P (slHiV size) (oV x t) (oV a t) h N := or_hv fun cf k => ev_slHi ..
noncomputable def slBoV (size : Nat) (v w z : V) (k : V → Bool) : Bool := vL v (fun _ => vI w fun _ n => natK n fun a => vI z fun _ m => natK m fun b => ifK (Nat.beq a 0) fun _ => ifK (Nat.beq b 0) fun _ => k .l0) fun id g off len fin cap => vI w fun _ n => natK n fun a => vI z fun _ m => natK m fun b => ifK (Nat.ble a b) fun _ =>
  Option.rec (fun id g off len fin a b k => sliceN size id g off len fin a b fun v => k v) (fun c id g off len fin a b k => boolK (flagB c) (fun _ => ifK (Nat.beq b 0) fun _ => k (.l id g off 0 off (some c))) (fun _ => sliceC size id g off len fin c a b fun v => k v)) cap id g off len fin a b k
theorem ev_slBo {cf : CallF} {k : V → H → Bool} (size : Nat) (b : O) : doSlice size x (some a) (some b) cf t h k = slBoV size (oV x t) (oV a t) (oV b t) fun v => k v h := by
  unfold slBoV
  simp only [doSlice, oE_eq, boundK]
  congr 1
  funext id g off len fin cap
  congr 1; funext _ n; congr 1; funext a; congr 1; funext _ m; congr 1; funext b; congr 1; funext _
  cases cap with
  | none => rfl
  | some c =>
    show boolK (flagB c) _ _ = boolK (flagB c) _ _
    cases flagB c <;> rfl
theorem or_slBo (b : O) : OR P (doSlice size x (some a) (some b)) t h N = H3 P (slBoV size) (oV x t) (oV a t) (oV b t) h N := or_hv fun cf k => ev_slBo ..
theorem h2_sliceArr {g off fin : Nat} (hK : n < 18446744073709551616) (h0 : 0 ≤ z) (hn : z < n) : H2 P (gSliceArr n size) (.p id g off fin) (.i kd z) h N = N.go P (.l id g (off + z.toNat * size) (n - z.toNat) fin (some (n - z.toNat))) h := hv_of fun k => by
  show natK z (fun p => ifK (Nat.ble p n) fun _ => sliceC size id g off n fin n p n k) = _
  rw [natK_nn h0, ifBle (by omega), sliceC_mid hK (Nat.le_refl _) (by omega)]
theorem h2_slLo (hKM : K < 18446744073709551616) (h0 : 0 ≤ z) (hn : z ≤ K) : H2 P (slLoV 1) (.l id 0 0 K K (some K)) (.i kd z) h N = N.go P (tailV id K z.toNat) h := hv_of fun k => by
  obtain ⟨n, rfl⟩ := Int.eq_ofNat_of_zero_le h0
  exact slLo_row hKM (by omega) k
theorem h2_slHi (hKM : K < 18446744073709551616) (h0 : 0 ≤ z) (hn : z ≤ K) (hK : 0 < K) : H2 P (slHiV 1) (.l id 0 0 K K (some K)) (.i kd z) h N = N.go P (.l id 0 0 z.toNat K (some K)) h := hv_of fun k => by
  obtain ⟨n, rfl⟩ := Int.eq_ofNat_of_zero_le h0
  exact slHi_row hKM (by omega) hK k
end
def CL (P : Program) (f : FuncId) (vs : List V) (h : H) (N : Nx) : Prop := ∃ Q, FnOk P f vs h Q ∧ ∀ v h', Q v h' → N.go P v h'
theorem CL.mk {P : Program} {f : FuncId} {vs : List V} {h : H} {N : Nx} {Q : V → H → Prop} (a : FnOk P f vs h Q) (k : ∀ v h', Q v h' → N.go P v h') : CL P f vs h N := ⟨Q, a, k⟩
/-- .. that leaves memory alone -/
theorem CL.pure {P : Program} {f : FuncId} {vs : List V} {h : H} {N : Nx} {e : V} (a : FnOk P f vs h fun y h' => y = e ∧ h' = h) (k : N.go P e h) : CL P f vs h N := ⟨_, a, fun v h' hq => by rw [hq.1, hq.2]; exact k⟩
/-- .. that makes blocks of its own alone -/
theorem CL.stay {P : Program} {f : FuncId} {vs : List V} {h : H} {N : Nx} {e : V} (a : FnOk P f vs h fun y h' => y = e ∧ Stay nowhere h h') (k : ∀ h', Stay nowhere h h' → N.go P e h') : CL P f vs h N := ⟨_, a, fun v h' hq => by rw [hq.1]; exact k h' hq.2⟩
theorem or_call {P : Program} {t : F} {h : H} {N : Nx} {f : FuncId} {args : List O} : OR P (doCall f args) t h N = CL P f (args.map fun o => oV o t) h N := by
  apply propext; constructor
  · rintro ⟨v, h', ⟨cf, c1, c2⟩, k⟩
    have c3 : ∀ k, cf f (args.map fun o => oV o t) h k = k v h' := fun k => by rw [← c2 k]; show _ = evalsK args t (fun vs => cf f vs h k); rw [evalsK_eq]
    obtain ⟨v', h'', e, r1, r2, r3⟩ := c1 f _ h (fun _ _ => true) (c3 _)
    obtain ⟨rfl, rfl⟩ := vh_of fun k => (c3 k).symm.trans (e k)
    refine ⟨fun v h => v = v' ∧ h = h'', ⟨v', h'', ⟨r1, r2, r3⟩, rfl, rfl⟩, ?_⟩
    rintro _ _ ⟨rfl, rfl⟩
    exact k
  · rintro ⟨Q, a, k⟩
    obtain ⟨v, h', c1, c2⟩ := cfS_call (S := fun _ _ _ v h' => Q v h') a
    exact ⟨v, h', ⟨_, cfS_ok P _, fun k => by show evalsK args t _ = _; rw [evalsK_eq, c1]⟩, k v h' c2⟩
theorem or_mkF {P : Program} {t : F} {h : H} {N : Nx} {f : FuncId} {cap : List O} : OR P (doMkF f cap) t h N = N.go P (.f f (cap.map fun o => oV o t)) h := (or_hv (g := fun k => k (.f f (cap.map fun o => oV o t))) fun cf k => by show evalsK cap t _ = _; rw [evalsK_eq]).trans (hv_of fun _ => rfl)
/-- a call of a function value -/
def CLF (P : Program) (x : V) (vs : List V) (h : H) (N : Nx) : Prop := ∃ f cs, x = .f f cs ∧ CL P f (vs ++ cs) h N
theorem clf_eq {P : Program} {f : FuncId} {cs vs : List V} {h : H} {N : Nx} : CLF P (.f f cs) vs h N = CL P f (vs ++ cs) h N := propext ⟨fun ⟨_, _, e, a⟩ => by cases e; exact a, fun a => ⟨_, _, rfl, a⟩⟩
theorem or_callV {P : Program} {t : F} {h : H} {N : Nx} {x : O} {args : List O} : OR P (doCallV x args) t h N = CLF P (oV x t) (args.map fun o => oV o t) h N := by
  have key : ∀ f cs, oV x t = .f f cs → OR P (doCallV x args) t h N = CL P f ((args.map fun o => oV o t) ++ cs) h N := fun f cs hx => by
    have e : ∀ cf k, doCallV x args cf t h k = cf f ((args.map fun o => oV o t) ++ cs) h k := fun cf k => by show oE x t _ = _; rw [oE_eq]; show evalsK args t _ = _; rw [evalsK_eq, hx, vF_f, app_eqV]
    apply propext; constructor
    · rintro ⟨v, h', ⟨cf, c1, c2⟩, k⟩
      have c3 : ∀ k, cf f ((args.map fun o => oV o t) ++ cs) h k = k v h' := fun k => (e cf k).symm.trans (c2 k)
      obtain ⟨v', h'', e, r1, r2, r3⟩ := c1 f _ h (fun _ _ => true) (c3 _)
      obtain ⟨rfl, rfl⟩ := vh_of fun k => (c3 k).symm.trans (e k)
      refine ⟨fun v h => v = v' ∧ h = h'', ⟨v', h'', ⟨r1, r2, r3⟩, rfl, rfl⟩, ?_⟩
      rintro _ _ ⟨rfl, rfl⟩
      exact k
    · rintro ⟨Q, a, k⟩
      obtain ⟨v, h', c1, c2⟩ := cfS_call (S := fun _ _ _ v h' => Q v h') a
      exact ⟨v, h', ⟨_, cfS_ok P _, fun k => (e _ k).trans (c1 k)⟩, k v h' c2⟩
  apply propext; constructor
  · intro a
    have a' := a
    obtain ⟨v, h', ⟨cf, c1, c2⟩, k⟩ := a'
    have := c2 fun _ _ => true
    have h2 : (oE x t fun y => evalsK args t fun vs => vF y fun f cs => cf f (app vs cs) h fun _ _ => true) = true := this
    rw [oE_eq] at h2
    have h2 : (evalsK args t fun vs => vF (oV x t) fun f cs => cf f (app vs cs) h fun _ _ => true) = true := h2
    rw [evalsK_eq] at h2
    obtain ⟨f, cs, hx, _⟩ := vF_ok h2
    exact ⟨f, cs, hx, by rw [← key f cs hx]; exact a⟩
  · rintro ⟨f, cs, hx, a⟩
    rw [key f cs hx]; exact a
def CD (v : V) (A B : Prop) : Prop := ∃ q, v = .b q ∧ (q = true → A) ∧ (q = false → B)
theorem Ok.cd {P : Program} {nt : Nat} {o : O} {a b : CC} {t : F} {h : H} {K : X → F → H → Prop} (c : CD (oV o t) (Ok P nt a t h K) (Ok P nt b t h K)) : Ok P nt (.cond o a b) t h K := by
  obtain ⟨q, hq, ha, hb⟩ := c
  exact Ok.cond hq ha hb
theorem cd_t {A B : Prop} : CD (.b true) A B = A := propext ⟨fun ⟨q, hq, ha, _⟩ => by cases hq; exact ha rfl, fun a => ⟨true, rfl, fun _ => a, fun h => by cases h⟩⟩
theorem cd_f {A B : Prop} : CD (.b false) A B = B := propext ⟨fun ⟨q, hq, _, hb⟩ => by cases hq; exact hb rfl, fun b => ⟨false, rfl, fun h => (by cases h), fun _ => b⟩⟩
theorem cd_split {q : Bool} {A B : Prop} (a : q = true → A) (b : q = false → B) : CD (.b q) A B := ⟨q, rfl, a, b⟩
/-- behind the first part: b, then K -/
def Sq (P : Program) (nt : Nat) (b : CC) (K : X → F → H → Prop) : X → F → H → Prop
  | .normal, t, h => Ok P nt b t h K
  | x, t, h => K x t h
/-- the next round -/
def LpG (Inv : Nat → F → H → Prop) (m : Nat) (t : F) (h : H) : Prop := ∃ m', m' < m ∧ Inv m' t h
def LpK (Inv : Nat → F → H → Prop) (m : Nat) (K : X → F → H → Prop) : X → F → H → Prop
  | .normal, t, h => LpG Inv m t h
  | x, t, h => K x t h
section
variable {P : Program} {nt : Nat} {a b : CC} {t : F} {h : H} {K : X → F → H → Prop} {Inv : Nat → F → H → Prop} {m j id : Nat}
theorem Ok.sq (k : Ok P nt a t h (Sq P nt b K)) : Ok P nt (.seq a b) t h K := Ok.seq (k.mono fun x t h => by cases x <;> exact fun h => h)
theorem sq_n : Sq P nt b K .normal t h = Ok P nt b t h K := rfl
theorem sq_e : Sq P nt b K (.exit j) t h = K (.exit j) t h := rfl
theorem sq_r : Sq P nt b K .ret t h = K .ret t h := rfl
theorem lp_n : LpK Inv m K .normal t h = LpG Inv m t h := rfl
theorem lp_e : LpK Inv m K (.exit j) t h = K (.exit j) t h := rfl
theorem lp_r : LpK Inv m K .ret t h = K .ret t h := rfl
def IsI (I Inv : Nat → F → H → Prop) : Prop := I = Inv
/-- a loop: the invariant, with a measure that falls -/
theorem Ok.lp (Inv : Nat → F → H → Prop) (m : Nat) (i : Inv m t h) (round : ∀ I : Nat → F → H → Prop, IsI I Inv → ∀ m t h, Inv m t h → Ok P nt a t h (LpK I m K)) : Ok P nt (.loop a) t h K :=
  Ok.loop Inv (fun m t h hi => (round Inv rfl m t h hi).mono fun x t h => by cases x <;> exact fun h => h) m t h i
theorem lp_next {I : Nat → F → H → Prop} (e : IsI I Inv) (m' : Nat) (hm : m' < m) (k : Inv m' t h) : LpG I m t h := by have e' : I = Inv := e; subst e'; exact ⟨m', hm, k⟩
end
def FnK (rs : List Rs) (Q : V → H → Prop) : X → F → H → Prop := fun x t' h' => match x with
  | .exit _ => False
  | _ => ∃ us, (∀ k : List V → Bool, resK rs t' h' k = k us) ∧ Q (one us) h'
theorem fn_go {P : Program} {f : FuncId} {nt : Nat} {cc : CC} {rs : List Rs} {vs : List V} {h : H} {Q : V → H → Prop} (hc : compFn P f = ⟨nt, cc, rs⟩) (hbad : cc ≠ .bad) (hl1 : vs.length ≤ nt) (hl2 : vs.length ≤ 512)
    (ok : ∀ Q', Q' = Q → Ok P nt cc (slotsF vs 0 F.zero) h (FnK rs Q')) : FnOk P f vs h Q := fn_run hc hbad hl1 hl2 (ok Q rfl)
section
variable {Q : V → H → Prop} {t : F} {h : H} {n m p q : Nat}
theorem fnk_of {rs : List Rs} {us : List V} (e : ∀ k : List V → Bool, resK rs t h k = k us) : FnK rs Q .ret t h = Q (one us) h :=
  propext ⟨fun ⟨vs, e', k⟩ => by have := l_of fun k => (e k).symm.trans (e' k); subst this; exact k, fun k => ⟨us, e, k⟩⟩
theorem fnk_n {rs : List Rs} : FnK rs Q .normal t h = FnK rs Q .ret t h := rfl
theorem fnk_0 : FnK [] Q .ret t h = Q (.tu []) h := fnk_of (us := []) fun k => rfl
theorem fnk_1 : FnK [Rs.tmp (slOf n)] Q .ret t h = Q (get n t) h := fnk_of (us := [_]) fun k => res_1 ..
theorem fnk_2 : FnK [Rs.tmp (slOf n), Rs.tmp (slOf m)] Q .ret t h = Q (.tu [get n t, get m t]) h := fnk_of (us := [_, _]) fun k => res_2 ..
theorem fnk_3 : FnK [Rs.tmp (slOf n), Rs.tmp (slOf m), Rs.tmp (slOf p)] Q .ret t h = Q (.tu [get n t, get m t, get p t]) h := fnk_of (us := [_, _, _]) fun k => res_3 ..
theorem fnk_4 : FnK [Rs.tmp (slOf n), Rs.tmp (slOf m), Rs.tmp (slOf p), Rs.tmp (slOf q)] Q .ret t h = Q (.tu [get n t, get m t, get p t, get q t]) h := fnk_of (us := [_, _, _, _]) fun k => by
  show forceV (sGet (slOf n) t) (fun v => forceV (sGet (slOf m) t) fun u => forceV (sGet (slOf p) t) fun w => forceV (sGet (slOf q) t) fun z => k [v, u, w, z]) = _
  rw [forceV_eq, forceV_eq, forceV_eq, forceV_eq]; rfl
end
/-- results, the first out of a box -/
def RA (Q : V → H → Prop) (size : Nat) (v : V) (us : List V) (h : H) : Prop := ∃ vs, (∀ k : List V → Bool, (vP v fun id g off fin => loadN h id g off fin size k) = k vs) ∧ Q (one (.a vs :: us)) h
section
variable {Q : V → H → Prop} {t : F} {h : H} {n m p q size : Nat}
theorem ra_of {rs : List Rs} {us : List V} (e : ∀ (k : List V → Bool), (rsK (Rs.cellA (slOf n) size) t h fun w => resK rs t h fun vs => k (w :: vs)) = vP (get n t) fun id g off fin => loadN h id g off fin size fun vs => k (.a vs :: us)) : FnK (Rs.cellA (slOf n) size :: rs) Q .ret t h = RA Q size (get n t) us h := by
  refine propext ⟨fun ⟨ws, e', k⟩ => ?_, fun ⟨vs, e', k⟩ => ⟨.a vs :: us, fun k => ?_, k⟩⟩
  · have e2 := fun k => (e k).symm.trans (e' k)
    have e3 := e2 (fun zs => true)
    obtain ⟨id, g, off, fin, hp⟩ : ∃ id g off fin, get n t = .p id g off fin := by
      revert e3
      cases get n t <;> intro e3 <;> first | exact ⟨_, _, _, _, rfl⟩ | exact Bool.noConfusion e3
    rw [hp] at e2 ⊢
    have e4 : ∀ k : List V → Bool, loadN h id g off fin size (fun vs => k (.a vs :: us)) = k ws := e2
    obtain ⟨vs, hv, _⟩ := loadN_ok (h := h) (id := id) (g := g) (off := off) (fin := fin) (n := size) (k := fun _ => true) (e4 fun _ => true)
    have : ws = .a vs :: us := l_of fun k => by rw [← e4 k, hv]
    subst this
    exact ⟨vs, hv, k⟩
  · have := e' fun vs => k (.a vs :: us)
    rw [← this]; exact e k
theorem fnk_A0 : FnK [Rs.cellA (slOf n) size] Q .ret t h = RA Q size (get n t) [] h := ra_of fun k => rfl
theorem fnk_A1 : FnK [Rs.cellA (slOf n) size, Rs.tmp (slOf m)] Q .ret t h = RA Q size (get n t) [get m t] h := ra_of fun k => by
  show (vP (get n t) fun id g off fin => loadN h id g off fin size fun vs => forceV (get m t) fun v => k [.a vs, v]) = _
  simp only [forceV_eq]
theorem fnk_A2 : FnK [Rs.cellA (slOf n) size, Rs.tmp (slOf m), Rs.tmp (slOf p)] Q .ret t h = RA Q size (get n t) [get m t, get p t] h := ra_of fun k => by
  show (vP (get n t) fun id g off fin => loadN h id g off fin size fun vs => forceV (get m t) fun v => forceV (get p t) fun u => k [.a vs, v, u]) = _
  simp only [forceV_eq]
end
theorem one_0 : one [] = .tu [] := rfl
theorem wrap_u8 {n : Int} (h1 : 0 ≤ n) (h2 : n ≤ 255) : IntKind.u8.wrap n = n := by
  simp only [IntKind.wrap, IntKind.bits, IntKind.signed]; simp; omega
theorem wrap_u16 {n : Int} (h1 : 0 ≤ n) (h2 : n ≤ 65535) : IntKind.u16.wrap n = n := by
  simp only [IntKind.wrap, IntKind.bits, IntKind.signed]; simp; omega
theorem wrap_u32 {n : Int} (h1 : 0 ≤ n) (h2 : n ≤ 4294967295) : IntKind.u32.wrap n = n := by
  simp only [IntKind.wrap, IntKind.bits, IntKind.signed]; simp; omega
theorem wrap_u64 {n : Int} (h1 : 0 ≤ n) (h2 : n ≤ 18446744073709551615) : IntKind.u64.wrap n = n := by
  simp only [IntKind.wrap, IntKind.bits, IntKind.signed]; simp; omega
theorem wrap_i32 {n : Int} (h1 : -2147483648 ≤ n) (h2 : n ≤ 2147483647) : IntKind.i32.wrap n = n := by
  simp only [IntKind.wrap, IntKind.bits, IntKind.signed]; simp; omega
theorem wrap_i64c (c : UInt8) : IntKind.i64.wrap (c.toNat : Int) = (c.toNat : Int) := wrap_i64 (by omega) (by have := c.toNat_lt; omega)
theorem wrap_u8c (c : UInt8) : IntKind.u8.wrap (c.toNat : Int) = (c.toNat : Int) := wrap_u8 (by omega) (by have := c.toNat_lt; omega)
theorem wrap_u16c (c : UInt8) : IntKind.u16.wrap (c.toNat : Int) = (c.toNat : Int) := wrap_u16 (by omega) (by have := c.toNat_lt; omega)
theorem wrap_u32c (c : UInt8) : IntKind.u32.wrap (c.toNat : Int) = (c.toNat : Int) := wrap_u32 (by omega) (by have := c.toNat_lt; omega)
theorem wrap_u64c (c : UInt8) : IntKind.u64.wrap (c.toNat : Int) = (c.toNat : Int) := wrap_u64 (by omega) (by have := c.toNat_lt; omega)
theorem bits_i64 : IntKind.bits .i64 = 64 := rfl
theorem bits_u64 : IntKind.bits .u64 = 64 := rfl
theorem bits_u32 : IntKind.bits .u32 = 32 := rfl
theorem bits_u16 : IntKind.bits .u16 = 16 := rfl
theorem bits_u8 : IntKind.bits .u8 = 8 := rfl
theorem bits_i32 : IntKind.bits .i32 = 32 := rfl
end Go.Ev

set_option linter.all false
set_option maxRecDepth 10000
namespace Go.Ev
open Go
section
variable {P : Program} {h : H} {N : Nx} {a b : Int}
theorem h2_and_i64 (ha : 0 ≤ a) (ha2 : a ≤ 9223372036854775807) (hb : 0 ≤ b) (hb2 : b ≤ 9223372036854775807) : H2 P (gBin fAnd) (.i .i64 a) (.i .i64 b) h N = N.go P (.i .i64 ((a.toNat &&& b.toNat : Nat) : Int)) h := h2_and (m := 9223372036854775807) rfl ha ha2 hb hb2
theorem h2_and_u8 (ha : 0 ≤ a) (ha2 : a ≤ 255) (hb : 0 ≤ b) (hb2 : b ≤ 255) : H2 P (gBin fAnd) (.i .u8 a) (.i .u8 b) h N = N.go P (.i .u8 ((a.toNat &&& b.toNat : Nat) : Int)) h := h2_and (m := 255) rfl ha ha2 hb hb2
theorem h2_and_u16 (ha : 0 ≤ a) (ha2 : a ≤ 65535) (hb : 0 ≤ b) (hb2 : b ≤ 65535) : H2 P (gBin fAnd) (.i .u16 a) (.i .u16 b) h N = N.go P (.i .u16 ((a.toNat &&& b.toNat : Nat) : Int)) h := h2_and (m := 65535) rfl ha ha2 hb hb2
theorem h2_and_u32 (ha : 0 ≤ a) (ha2 : a ≤ 4294967295) (hb : 0 ≤ b) (hb2 : b ≤ 4294967295) : H2 P (gBin fAnd) (.i .u32 a) (.i .u32 b) h N = N.go P (.i .u32 ((a.toNat &&& b.toNat : Nat) : Int)) h := h2_and (m := 4294967295) rfl ha ha2 hb hb2
theorem h2_and_u64 (ha : 0 ≤ a) (ha2 : a ≤ 18446744073709551615) (hb : 0 ≤ b) (hb2 : b ≤ 18446744073709551615) : H2 P (gBin fAnd) (.i .u64 a) (.i .u64 b) h N = N.go P (.i .u64 ((a.toNat &&& b.toNat : Nat) : Int)) h := h2_and (m := 18446744073709551615) rfl ha ha2 hb hb2
theorem h2_or_i64 (ha : 0 ≤ a) (ha2 : a ≤ 9223372036854775807) (hb : 0 ≤ b) (hb2 : b ≤ 9223372036854775807) : H2 P (gBin fOr) (.i .i64 a) (.i .i64 b) h N = N.go P (.i .i64 ((a.toNat ||| b.toNat : Nat) : Int)) h := h2_or (m := 9223372036854775807) rfl ha ha2 hb hb2
theorem h2_or_u8 (ha : 0 ≤ a) (ha2 : a ≤ 255) (hb : 0 ≤ b) (hb2 : b ≤ 255) : H2 P (gBin fOr) (.i .u8 a) (.i .u8 b) h N = N.go P (.i .u8 ((a.toNat ||| b.toNat : Nat) : Int)) h := h2_or (m := 255) rfl ha ha2 hb hb2
theorem h2_or_u16 (ha : 0 ≤ a) (ha2 : a ≤ 65535) (hb : 0 ≤ b) (hb2 : b ≤ 65535) : H2 P (gBin fOr) (.i .u16 a) (.i .u16 b) h N = N.go P (.i .u16 ((a.toNat ||| b.toNat : Nat) : Int)) h := h2_or (m := 65535) rfl ha ha2 hb hb2
theorem h2_or_u32 (ha : 0 ≤ a) (ha2 : a ≤ 4294967295) (hb : 0 ≤ b) (hb2 : b ≤ 4294967295) : H2 P (gBin fOr) (.i .u32 a) (.i .u32 b) h N = N.go P (.i .u32 ((a.toNat ||| b.toNat : Nat) : Int)) h := h2_or (m := 4294967295) rfl ha ha2 hb hb2
theorem h2_or_u64 (ha : 0 ≤ a) (ha2 : a ≤ 18446744073709551615) (hb : 0 ≤ b) (hb2 : b ≤ 18446744073709551615) : H2 P (gBin fOr) (.i .u64 a) (.i .u64 b) h N = N.go P (.i .u64 ((a.toNat ||| b.toNat : Nat) : Int)) h := h2_or (m := 18446744073709551615) rfl ha ha2 hb hb2
theorem h2_xor_i64 (ha : 0 ≤ a) (ha2 : a ≤ 9223372036854775807) (hb : 0 ≤ b) (hb2 : b ≤ 9223372036854775807) : H2 P (gBin fXor) (.i .i64 a) (.i .i64 b) h N = N.go P (.i .i64 ((a.toNat ^^^ b.toNat : Nat) : Int)) h := h2_xor (m := 9223372036854775807) rfl ha ha2 hb hb2
theorem h2_xor_u8 (ha : 0 ≤ a) (ha2 : a ≤ 255) (hb : 0 ≤ b) (hb2 : b ≤ 255) : H2 P (gBin fXor) (.i .u8 a) (.i .u8 b) h N = N.go P (.i .u8 ((a.toNat ^^^ b.toNat : Nat) : Int)) h := h2_xor (m := 255) rfl ha ha2 hb hb2
theorem h2_xor_u16 (ha : 0 ≤ a) (ha2 : a ≤ 65535) (hb : 0 ≤ b) (hb2 : b ≤ 65535) : H2 P (gBin fXor) (.i .u16 a) (.i .u16 b) h N = N.go P (.i .u16 ((a.toNat ^^^ b.toNat : Nat) : Int)) h := h2_xor (m := 65535) rfl ha ha2 hb hb2
theorem h2_xor_u32 (ha : 0 ≤ a) (ha2 : a ≤ 4294967295) (hb : 0 ≤ b) (hb2 : b ≤ 4294967295) : H2 P (gBin fXor) (.i .u32 a) (.i .u32 b) h N = N.go P (.i .u32 ((a.toNat ^^^ b.toNat : Nat) : Int)) h := h2_xor (m := 4294967295) rfl ha ha2 hb hb2
theorem h2_xor_u64 (ha : 0 ≤ a) (ha2 : a ≤ 18446744073709551615) (hb : 0 ≤ b) (hb2 : b ≤ 18446744073709551615) : H2 P (gBin fXor) (.i .u64 a) (.i .u64 b) h N = N.go P (.i .u64 ((a.toNat ^^^ b.toNat : Nat) : Int)) h := h2_xor (m := 18446744073709551615) rfl ha ha2 hb hb2
theorem h2_ant_i64 (ha : 0 ≤ a) (ha2 : a ≤ 9223372036854775807) (hb : 0 ≤ b) (hb2 : b ≤ 9223372036854775807) : H2 P (gBin fAnt) (.i .i64 a) (.i .i64 b) h N = N.go P (.i .i64 ((a.toNat ^^^ (a.toNat &&& b.toNat) : Nat) : Int)) h := h2_ant (m := 9223372036854775807) rfl ha ha2 hb hb2
theorem h2_ant_u8 (ha : 0 ≤ a) (ha2 : a ≤ 255) (hb : 0 ≤ b) (hb2 : b ≤ 255) : H2 P (gBin fAnt) (.i .u8 a) (.i .u8 b) h N = N.go P (.i .u8 ((a.toNat ^^^ (a.toNat &&& b.toNat) : Nat) : Int)) h := h2_ant (m := 255) rfl ha ha2 hb hb2
theorem h2_ant_u16 (ha : 0 ≤ a) (ha2 : a ≤ 65535) (hb : 0 ≤ b) (hb2 : b ≤ 65535) : H2 P (gBin fAnt) (.i .u16 a) (.i .u16 b) h N = N.go P (.i .u16 ((a.toNat ^^^ (a.toNat &&& b.toNat) : Nat) : Int)) h := h2_ant (m := 65535) rfl ha ha2 hb hb2
theorem h2_ant_u32 (ha : 0 ≤ a) (ha2 : a ≤ 4294967295) (hb : 0 ≤ b) (hb2 : b ≤ 4294967295) : H2 P (gBin fAnt) (.i .u32 a) (.i .u32 b) h N = N.go P (.i .u32 ((a.toNat ^^^ (a.toNat &&& b.toNat) : Nat) : Int)) h := h2_ant (m := 4294967295) rfl ha ha2 hb hb2
theorem h2_ant_u64 (ha : 0 ≤ a) (ha2 : a ≤ 18446744073709551615) (hb : 0 ≤ b) (hb2 : b ≤ 18446744073709551615) : H2 P (gBin fAnt) (.i .u64 a) (.i .u64 b) h N = N.go P (.i .u64 ((a.toNat ^^^ (a.toNat &&& b.toNat) : Nat) : Int)) h := h2_ant (m := 18446744073709551615) rfl ha ha2 hb hb2
end
theorem cond_tV (x y : V) : cond true x y = x := rfl
theorem cond_fV (x y : V) : cond false x y = y := rfl
theorem map_cV (f : O → V) (o : O) (os : List O) : List.map f (o :: os) = f o :: List.map f os := rfl
theorem map_nV (f : O → V) : List.map f [] = [] := rfl
theorem len_cV (a : V) (l : List V) : (a :: l).length = l.length + 1 := rfl
theorem len_nV : ([] : List V).length = 0 := rfl
theorem take_0V (l : List V) : l.take 0 = [] := rfl
theorem take_sV (n : Nat) (a : V) (l : List V) : (a :: l).take (n + 1) = a :: l.take n := rfl
theorem drop_0V (l : List V) : l.drop 0 = l := rfl
theorem drop_sV (n : Nat) (a : V) (l : List V) : (a :: l).drop (n + 1) = l.drop n := rfl
theorem app_nV (l : List V) : [] ++ l = l := rfl
theorem app_cV (a : V) (l m : List V) : (a :: l) ++ m = a :: (l ++ m) := rfl
theorem getD_0V (a : V) (l : List V) (d : V) : (a :: l).getD 0 d = a := rfl
theorem getD_sV (n : Nat) (a : V) (l : List V) (d : V) : (a :: l).getD (n + 1) d = l.getD n d := by simp [List.getD]
theorem set_0V (a b : V) (l : List V) : (a :: l).set 0 b = b :: l := rfl
theorem set_sV (n : Nat) (a b : V) (l : List V) : (a :: l).set (n + 1) b = a :: l.set n b := rfl
theorem beq_bb (b : Bool) : (b == b) = true := by cases b <;> rfl
theorem bne_bb (b : Bool) : (b != b) = false := by cases b <;> rfl
def wlk := And.intro @wB_eq (And.intro @uB_eq (And.intro @wG_eq (And.intro @uG_eq (And.intro @oN_eq (And.intro @wo_nil (And.intro @do_nil (And.intro @wo_c (And.intro @wo_0 (And.intro @wo_g (And.intro @wo_g0 (And.intro @do_c (And.intro @do_0 (And.intro @do_g (And.intro @do_u (And.intro @do_u0 (And.intro @do_gu (And.intro @go_w (And.intro @go_w0 (And.intro @go_d (And.intro @go_d0 (And.intro @go_u (And.intro @go_u0 (And.intro @gd_tt (And.intro @gd_ff (And.intro @gd_tf (And.intro @gd_ft (And.intro @gd_tu (And.intro @unFloor_re (And.intro @or_move (And.intro @or_pick (And.intro @or_bin (And.intro @or_shift (And.intro @or_rem (And.intro @or_bool (And.intro @or_not (And.intro @or_neg (And.intro @or_conv (And.intro @or_ext (And.intro @or_lenS (And.intro @or_len (And.intro @or_min (And.intro @or_max (And.intro @or_mms (And.intro @or_field (And.intro @or_fieldA (And.intro @or_fieldAddr (And.intro @or_nilCheck (And.intro @or_idx (And.intro @or_idxArr (And.intro @or_sindex (And.intro @or_aindex (And.intro @or_concat (And.intro @or_scmp (And.intro @or_cmpS (And.intro @or_ss2 (And.intro @or_ss1 (And.intro @or_ssa (And.intro @or_moveS (And.intro @or_nil (And.intro @or_sliceArr (And.intro @or_load (And.intro @or_loadA (And.intro @or_b2s (And.intro @or_build (And.intro @or_call (And.intro @or_mkF (And.intro @or_callV (And.intro @clf_eq (And.intro @or_alloc (And.intro @or_box (And.intro @or_buildSlice (And.intro @or_store (And.intro @or_makeSlice (And.intro @or_append (And.intro @or_appendS (And.intro @or_copy (And.intro @or_copyS (And.intro @or_s2b (And.intro @or_slLo (And.intro @or_slHi (And.intro @or_slBo (And.intro @or_i2s (And.intro @or_sEq (And.intro @h2_add (And.intro @h2_sub (And.intro @h2_mul (And.intro @h2_lss (And.intro @h2_gtr (And.intro @h2_leq (And.intro @h2_geq (And.intro @h2_eql (And.intro @h2_neq (And.intro @h2_quo (And.intro @h2_rem (And.intro @h2_shl (And.intro @h2_shr (And.intro @h2_beq (And.intro @h2_bne (And.intro @h1_not (And.intro @h1_neg (And.intro @h1_conv (And.intro @h1_ext0 (And.intro @h1_ext1 (And.intro @h1_ext2 (And.intro @h1_ext3 (And.intro @h2_min (And.intro @h2_max (And.intro @h2_minS (And.intro @h2_maxS (And.intro @h3_pick (And.intro @h1_field (And.intro @h1_fieldA (And.intro @h1_fieldAddr (And.intro @h1_nilCheck (And.intro @h2_idx (And.intro @ix_l (And.intro @h2_idxArr (And.intro @gLen_l0 (And.intro @gLen_l (And.intro @h1_lenS (And.intro @h2_sindex (And.intro @h2_aindex (And.intro @h2_cat (And.intro @h2_seq (And.intro @h2_cmpS (And.intro @h2_sne (And.intro @h2_slt (And.intro @h2_sge (And.intro @h2_sle (And.intro @h2_sgt (And.intro @h3_ss2 (And.intro @h2_ss1 (And.intro @h2_ssa (And.intro @h1_moveS (And.intro @h2_nilL0 (And.intro @h2_nilL1 (And.intro @h2_nilP0 (And.intro @h2_nilP1 (And.intro @ld_p (And.intro @la_p (And.intro @l1_re (And.intro @ln_re (And.intro @bs_re (And.intro @fl_n (And.intro @fl_s (And.intro @fl_c (And.intro @fp_i (And.intro @fp_b (And.intro @fp_sv (And.intro @fp_p (And.intro @fp_l (And.intro @fp_l0 (And.intro @fp_a (And.intro @bx_i (And.intro @bx_b (And.intro @bx_sv (And.intro @bx_a (And.intro @bx_p (And.intro @bx_l (And.intro @bx_l0 (And.intro @ms_i (And.intro @h2_slLo (And.intro @h2_slHi (And.intro @h2_sliceArr (And.intro @h1_i2s (And.intro @h2_sE (And.intro @h2_sW (And.intro @h2_sP (And.intro @h2_and_i64 (And.intro @h2_and_u8 (And.intro @h2_and_u16 (And.intro @h2_and_u32 (And.intro @h2_and_u64 (And.intro @h2_or_i64 (And.intro @h2_or_u8 (And.intro @h2_or_u16 (And.intro @h2_or_u32 (And.intro @h2_or_u64 (And.intro @h2_xor_i64 (And.intro @h2_xor_u8 (And.intro @h2_xor_u16 (And.intro @h2_xor_u32 (And.intro @h2_xor_u64 (And.intro @h2_ant_i64 (And.intro @h2_ant_u8 (And.intro @h2_ant_u16 (And.intro @h2_ant_u32 (And.intro @h2_ant_u64 (And.intro @cd_t (And.intro @cd_f (And.intro @fnk_n (And.intro @fnk_0 (And.intro @fnk_1 (And.intro @fnk_2 (And.intro @fnk_3 (And.intro @fnk_4 (And.intro @fnk_A0 (And.intro @fnk_A1 (And.intro @fnk_A2 (And.intro @one_0 (And.intro @one_1 (And.intro @one_2 (And.intro @one_3 (And.intro @sq_n (And.intro @sq_e (And.intro @sq_r (And.intro @lp_n (And.intro @lp_e (And.intro @lp_r (And.intro @Out_n (And.intro @Out_e (And.intro @Out_r (And.intro @oV_t (And.intro @oV_c (And.intro @wrap_i64c (And.intro @wrap_u8c (And.intro @wrap_u16c (And.intro @wrap_u32c (And.intro @wrap_u64c (And.intro @wrap_i64 (And.intro @wrap_u8 (And.intro @wrap_u16 (And.intro @wrap_u32 (And.intro @wrap_u64 (And.intro @wrap_i32 (And.intro @bits_i64 (And.intro @bits_u64 (And.intro @bits_u32 (And.intro @bits_u16 (And.intro @bits_u8 (And.intro @bits_i32 (And.intro @sv_nil (And.intro @sv_one (And.intro @map_cV (And.intro @map_nV (And.intro @cond_tV (And.intro @cond_fV (And.intro @Bool.not_true (And.intro @Bool.not_false (And.intro @Bool.not_not (And.intro @decide_true (And.intro @decide_false (And.intro @Int.ofNat_eq_natCast (And.intro @Int.cast_ofNat_Int (And.intro @and_self (And.intro @Int.toNat_natCast (And.intro @beq_bb (And.intro @bne_bb (And.intro @Bool.false_xor (And.intro @Bool.true_xor (And.intro @len_cV (And.intro @len_nV (And.intro @take_0V (And.intro @take_sV (And.intro @drop_0V (And.intro @drop_sV (And.intro @app_nV (And.intro @app_cV (And.intro @getD_0V (And.intro @getD_sV (And.intro @set_0V (And.intro @set_sV (And.intro @Nat.min_eq_left (And.intro @Nat.zero_add (And.intro @Nat.add_zero (And.intro @Nat.mul_one (@Nat.zero_mul)))))))))))))))))))))))))))))))))))))))))))))))))))))))))))))))))))))))))))))))))))))))))))))))))))))))))))))))))))))))))))))))))))))))))))))))))))))))))))))))))))))))))))))))))))))))))))))))))))))))))))))))))))))))))))))))))))))))))))))))))))))))))))))))))))))))))))
def hcn := And.intro @Bool.not_eq_true' (@Bool.not_eq_false')
def lnv := And.intro @List.length_append.{0} (And.intro @List.length_cons.{0} (And.intro @List.length_nil.{0} (And.intro @List.length_take.{0} (And.intro @List.length_drop.{0} (And.intro @List.length_map.{0, 0} (@List.length_set.{0}))))))
def hcl := And.intro @Int.not_lt (And.intro @Int.not_le (And.intro @Nat.not_lt (And.intro @Nat.not_le (And.intro @decide_eq_true_eq (And.intro @decide_eq_false_iff_not (And.intro @Bool.not_eq_true (And.intro @Bool.not_eq_false (And.intro @Bool.not_true (And.intro @Bool.not_false (And.intro @Bool.not_eq_eq_eq_not (@Decidable.not_not)))))))))))
/-- the next step of code, by its form -/
class St (p : Prop) (q : outParam Prop) : Prop where
  h : q → p
section
variable {P : Program} {nt : Nat} {t : F} {h : H} {K : X → F → H → Prop} {a b : CC} {l : List CO} {id : Nat} {o : O}
instance : St (Ok P nt (.seq a b) t h K) (Ok P nt a t h (Sq P nt b K)) := ⟨Ok.sq⟩
instance : St (Ok P nt (.block id a) t h K) (Ok P nt a t h (Out id K)) := ⟨Ok.block⟩
instance : St (Ok P nt (.region l) t h K) (WO P l t h (K .normal)) := ⟨Ok.rg⟩
instance : St (Ok P nt (.cond o a b) t h K) (CD (oV o t) (Ok P nt a t h K) (Ok P nt b t h K)) := ⟨Ok.cd⟩
instance : St (Ok P nt .skip t h K) (K .normal t h) := ⟨Ok.skip⟩
instance : St (Ok P nt (.exit id) t h K) (K (.exit id) t h) := ⟨Ok.exit⟩
instance : St (Ok P nt .ret t h K) (K .ret t h) := ⟨Ok.ret⟩
end
end Go.Ev

set_option linter.all false
namespace Go.Ev
open Go
/-- a block of the call's own, made of a text's bytes or of cells -/
def Own1 (h : H) (id : B) (xs : List V) : Prop := ∃ blk, h.heap.get id = some blk ∧ blk.cur = 0 ∧ blk.min = 0 ∧ blk.fr ≤ 1 ∧ B.val h.floor ≤ B.val id ∧ B.val id < B.val h.next ∧ ∀ i y, xs[i]? = some y → blk.cells.getN i = some y
theorem Own1.row {h : H} {id : B} {xs : List V} (o : Own1 h id xs) : Row h id 0 0 xs := by
  obtain ⟨blk, h1, h2, h3, h4, h5, h6, h7⟩ := o
  refine ⟨fun _ => ⟨blk, h1, by omega⟩, fun i y hy => ?_⟩
  unfold Ev.cell cellB
  rw [h1]
  show (if blk.min ≤ 0 then blk.cells.getN (0 + i) else none) = _
  rw [if_pos (by omega), Nat.zero_add]
  exact h7 i y hy
section
variable {P : Program} {h : H} {N : Nx} {id : B} {xs : List V} {j fin el : Nat} {x y : V}
/-- []byte(text), to be written into -/
theorem SB.own {c : List UInt8} (hf : B.val h.floor ≤ B.val h.next) (hl : c.length ≤ 1048576)
    (k : ∀ h', Stay nowhere h h' → B.val h'.next = B.val h.next + 1 → Own1 h' h.next (c.map bv) → N.go P (.l h.next 0 0 c.length c.length (capF c.length)) h') : SB P el (sv c) h N := by
  obtain ⟨h', a1, a2, a3, a4, a5, cs, a6, a7⟩ := s2b_new el hf hl
  have := fun k => a1 (.c (sv c)) F.zero (fun _ _ _ _ => false) k rfl
  refine hm_of (v := .l h.next 0 0 c.length c.length (capF c.length)) (h' := h') (fun k => ?_) (k h' a2 a3 ⟨_, a6, rfl, rfl, by show 1 ≤ 1; omega, by rw [a2.floor]; exact hf, by omega, a7⟩)
  have e := this k
  simp only [doS2B, oE_eq] at e
  exact e
end
/-- the i-th row of a matrix -/
noncomputable def rowOf (h : H) (v : V) (i : Nat) : V := (cell h (lid v) (lg v) (loff v + i)).getD .u
/-- a matrix that was there when the call began -/
structure MA (h0 : H) (v : V) (M : List (List Bool)) (g : H) : Prop where
  mx : Mx h0 v M
  st : Stay nowhere h0 g
section
variable {P : Program} {N : Nx} {h0 g h' : H} {v : V} {M : List (List Bool)} {i j : Nat}
theorem MA.grow (a : MA h0 v M g) (s : Stay nowhere g h') : MA h0 v M h' := ⟨a.mx, a.st.trans s⟩
theorem MA.mg (a : MA h0 v M g) : Mx g v M := a.mx.grow a.st
theorem Mx.rowOf (a : Mx h0 v M) (hi : i < M.length) : Bl h0 (rowOf h0 v i) (M.getD i []) := by
  obtain ⟨rows, r1, r2, r3⟩ := a
  have hr : rows[i]? = some rows[i] := by simp
  have : Go.Ev.rowOf h0 v i = rows[i] := by
    unfold Go.Ev.rowOf
    rcases r1 with ⟨rfl, e⟩ | ⟨id, g, off, fin, cap, rfl, h2, h3, h4⟩
    · subst e; simp at r2; omega
    · have := h4.2 i _ hr
      show (cell h0 id g (off + i)).getD .u = _
      rw [this]; rfl
  rw [this]
  exact r3 i _ hr
theorem MA.row (a : MA h0 v M g) (hi : i < M.length) : Bl g (rowOf h0 v i) (M.getD i []) := (a.mx.rowOf hi).grow a.st
theorem MA.ix (a : MA h0 v M g) (g' : H) (hi : i < M.length) : IX P 1 v i g' N = N.go P (.p (lid v) (lg v) (loff v + i) (lfin v)) g' := by
  obtain ⟨rows, r1, r2, r3⟩ := a.mx
  exact r1.ix (by omega)
theorem MA.ld (a : MA h0 v M g) (hi : i < M.length) : L1 P (lid v) (lg v) (loff v + i) (lfin v) g N = N.go P (rowOf h0 v i) g := by
  obtain ⟨rows, r1, r2, r3⟩ := a.mx
  have hr : rows[i]? = some rows[i] := by simp
  refine hv_of fun k => ?_
  have e : Go.Ev.rowOf h0 v i = rows[i] := by
    unfold Go.Ev.rowOf
    rcases r1 with ⟨rfl, e⟩ | ⟨id, g, off, fin, cap, rfl, h2, h3, h4⟩
    · subst e; simp at r2; omega
    · have := h4.2 i _ hr
      show (cell h0 id g (off + i)).getD .u = _
      rw [this]; rfl
  rw [load_lst (r1.grow a.st) hr, e]
end
def UP (P : Program) (u size : Nat) (x : V) (h : H) (N : Nx) : Prop := HV P (fun k => vP x fun id g off fin => ifK (Nat.beq off 0) fun _ => ifK (Nat.ble size fin) fun _ => elK h id g u fun _ => k (.p id g off fin)) h N
section
variable {P : Program} {t : F} {h : H} {N : Nx} {x y : O} {ne : Bool} {id id' : B} {g off fin g' off' fin' : Nat} {u size : Nat}
theorem OwnE.up {xs : List V} {el : Nat} (o : OwnE h id el xs) (hf : size ≤ fin) : UP P el size (.p id 0 0 fin) h N = N.go P (.p id 0 0 fin) h := hv_of fun k => by
  have e1 : Nat.ble size fin = true := by rw [Nat.ble_eq]; exact hf
  show ifK (Nat.beq 0 0) (fun _ => ifK (Nat.ble size fin) fun _ => elK h id 0 el fun _ => k (.p id 0 0 fin)) = _
  have e2 : Nat.beq 0 0 = true := rfl
  rw [e2, ifK_true, e1, ifK_true, elK_own o]
end
section
variable {P : Program} {h : H} {N : Nx} {id : B} {xs : List V} {j fin el : Nat} {x y : V}
/-- append(v, text...) -/
theorem AS.buf {v : V} {a c : List UInt8} (hb : Buf h el 1 v (a.map bv)) (hf : B.val h.floor ≤ B.val h.next) (hl : a.length + c.length ≤ 1048576)
    (k : ∀ v' h', Buf h' el 1 v' ((a ++ c).map bv) → Stay (isOf v) h h' → (∀ i, isOf v' i → isOf v i ∨ B.val h.next ≤ B.val i) → Top h' v' → N.go P v' h') : AS P el v (sv c) h N := by
  obtain ⟨v', h', a1, a2, a3, a4, a5⟩ := append_top (vs := c.map bv) (n := c.length) hb hf (Nat.le_refl _) (by simp) (allOne_bv c) (by simpa using hl)
  refine hm_of (v := v') (h' := h') (fun k => ?_) (k v' h' (by rw [List.map_append]; exact a2) a3 a4 a5)
  show unpK c.length (pk c) [] (fun vs => append2 el 1 v c.length vs h k) = _
  rw [unpK_map _ _ _ _ rfl, List.append_nil, a1]
end
def US (P : Program) (e : Nat) (x y : V) (h : H) (N : Nx) : Prop := HM P (fun k => vI y fun kd n => ifK (kdEq kd .i64) fun _ => natK n fun n => vPZ x (fun _ => ifK (Nat.beq n 0) fun _ => k (.s 0 0) h) fun id g off fin => uStrK e n h k id g off fin) N
theorem US.of {P : Program} {e : Nat} {x y v : V} {h h' : H} {N : Nx} (hk : ∀ k : V → H → Bool, (vI y fun kd n => ifK (kdEq kd .i64) fun _ => natK n fun n => vPZ x (fun _ => ifK (Nat.beq n 0) fun _ => k (.s 0 0) h) fun id g off fin => uStrK e n h k id g off fin) = k v h') (k : N.go P v h') : US P e x y h N := hm_of hk k
end Go.Ev

set_option linter.all false
namespace Go.Ev
open Go
/-- keys and values -/
abbrev En := List (List UInt8 × V)
def toP (E : En) : List (V × V) := E.map fun p => (sv p.1, p.2)
def idxE (E : En) (k : List UInt8) : Option Nat := match E with
  | [] => none
  | (a, _) :: r => if k = a then some 0 else (idxE r k).map (· + 1)
def getE (E : En) (k : List UInt8) : Option V := match E with
  | [] => none
  | (a, v) :: r => if k = a then some v else getE r k
def setE (E : En) (k : List UInt8) (v : V) : En := match E with
  | [] => [(k, v)]
  | (a, u) :: r => if k = a then (k, v) :: r else (a, u) :: setE r k v
def delE (E : En) (k : List UInt8) : En := match E with
  | [] => []
  | (a, u) :: r => if k = a then r else (a, u) :: delE r k
theorem findP_sv (E : En) (k : List UInt8) : findP none (sv k) (toP E) = some (idxE E k) := by
  have ke : ∀ a b : List UInt8, keyEq none (sv a) (sv b) = some (decide (a = b)) := fun a b => by
    show some (eqS a.length (pk a) b.length (pk b)) = _
    rw [eqS_sv]
  induction E with
  | nil =>
    show (match keyEq none (sv k) (sv k) with | some _ => some none | none => none) = _
    rw [ke]; rfl
  | cons p r ih =>
    obtain ⟨a, v⟩ := p
    show (match keyEq none (sv k) (sv a), findP none (sv k) (toP r) with | some true, some _ => some (some 0) | some false, some (some i) => some (some (i + 1)) | some false, some none => some none | _, _ => none) = _
    rw [ke, ih]
    have hi : idxE ((a, v) :: r) k = if k = a then some 0 else (idxE r k).map (· + 1) := rfl
    rw [hi]
    by_cases e : k = a
    · rw [decide_eq_true e, if_pos e]
    · rw [decide_eq_false e, if_neg e]
      cases idxE r k <;> rfl
theorem idxE_get {E : En} {k : List UInt8} : ∀ {i : Nat}, idxE E k = some i → i < E.length ∧ getE E k = some (((toP E).getD i (.u, .u)).2) := by
  induction E with
  | nil => intro i h; cases h
  | cons p r ih =>
    obtain ⟨a, v⟩ := p
    intro i h
    unfold idxE at h
    unfold getE
    by_cases e : k = a
    · rw [if_pos e] at h ⊢
      cases h
      exact ⟨by simp, rfl⟩
    · rw [if_neg e] at h ⊢
      cases hr : idxE r k with
      | none => rw [hr] at h; cases h
      | some j =>
        rw [hr] at h
        cases h
        obtain ⟨h1, h2⟩ := ih hr
        refine ⟨by simp; omega, ?_⟩
        rw [h2]
        simp [toP, List.getD]
theorem idxE_none {E : En} {k : List UInt8} (h : idxE E k = none) : getE E k = none ∧ setE E k = (fun v => E ++ [(k, v)]) ∧ delE E k = E := by
  induction E with
  | nil => exact ⟨rfl, rfl, rfl⟩
  | cons p r ih =>
    obtain ⟨a, v⟩ := p
    unfold idxE at h
    by_cases e : k = a
    · rw [if_pos e] at h; cases h
    · rw [if_neg e] at h
      obtain ⟨h1, h2, h3⟩ := ih (by cases hr : idxE r k with | none => rfl | some j => rw [hr] at h; cases h)
      refine ⟨?_, ?_, ?_⟩
      · show (if k = a then _ else _) = _
        rw [if_neg e]; exact h1
      · funext w
        show (if k = a then _ else (a, v) :: setE r k w) = _
        rw [if_neg e, h2]; rfl
      · show (if k = a then _ else (a, v) :: delE r k) = _
        rw [if_neg e, h3]
theorem idxE_some {E : En} {k : List UInt8} : ∀ {i : Nat}, idxE E k = some i → (∀ v, toP (setE E k v) = (toP E).set i (sv k, v)) ∧ toP (delE E k) = (toP E).eraseIdx i := by
  induction E with
  | nil => intro i h; cases h
  | cons p r ih =>
    obtain ⟨a, v⟩ := p
    intro i h
    unfold idxE at h
    by_cases e : k = a
    · rw [if_pos e] at h
      cases h
      refine ⟨fun w => ?_, ?_⟩
      · unfold setE; rw [if_pos e]; rfl
      · unfold delE; rw [if_pos e]; rfl
    · rw [if_neg e] at h
      cases hr : idxE r k with
      | none => rw [hr] at h; cases h
      | some j =>
        rw [hr] at h
        cases h
        obtain ⟨h1, h2⟩ := ih hr
        refine ⟨fun w => ?_, ?_⟩
        · unfold setE; rw [if_neg e]
          show (sv a, v) :: toP (setE r k w) = _
          rw [h1]; rfl
        · unfold delE; rw [if_neg e]
          show (sv a, v) :: toP (delE r k) = _
          rw [h2]; rfl
def keysE (E : En) : List (List UInt8) := E.map (·.1)
theorem getE_mem {E : En} {k : List UInt8} : (∃ v, getE E k = some v) ↔ k ∈ keysE E := by
  induction E with
  | nil => simp [getE, keysE]
  | cons p r ih =>
    obtain ⟨a, u⟩ := p
    unfold getE
    by_cases e : k = a
    · rw [if_pos e]; simp [keysE, e]
    · rw [if_neg e, ih]; simp [keysE, e]
theorem keys_set (E : En) (k : List UInt8) (v : V) : keysE (setE E k v) = if k ∈ keysE E then keysE E else keysE E ++ [k] := by
  induction E with
  | nil => rfl
  | cons p r ih =>
    obtain ⟨a, u⟩ := p
    unfold setE
    by_cases e : k = a
    · subst e
      rw [if_pos rfl, if_pos (by simp [keysE])]; rfl
    · rw [if_neg e]
      show a :: keysE (setE r k v) = _
      rw [ih]
      have : k ∈ keysE ((a, u) :: r) ↔ k ∈ keysE r := by simp [keysE, e]
      by_cases hk : k ∈ keysE r
      · rw [if_pos hk, if_pos (this.2 hk)]; rfl
      · rw [if_neg hk, if_neg fun h => hk (this.1 h)]; rfl
theorem nodup_set {E : En} (h : (keysE E).Nodup) (k : List UInt8) (v : V) : (keysE (setE E k v)).Nodup := by
  rw [keys_set]
  split
  · exact h
  · rename_i hk
    rw [List.nodup_append]
    exact ⟨h, by simp, fun a ha b hb e => hk (by rw [List.mem_singleton] at hb; rw [← hb, ← e]; exact ha)⟩
theorem keys_del_sub (E : En) (k : List UInt8) : (keysE (delE E k)).Sublist (keysE E) := by
  induction E with
  | nil => exact .slnil
  | cons p r ih =>
    obtain ⟨a, u⟩ := p
    unfold delE
    split
    · exact List.sublist_cons_self _ _
    · exact ih.cons_cons a
theorem nodup_del {E : En} (h : (keysE E).Nodup) (k : List UInt8) : (keysE (delE E k)).Nodup := h.sublist (keys_del_sub E k)
structure MapC (h : H) (id : B) (E : En) : Prop where
  blk : ∃ b, h.heap.get id = some b ∧ b.min = b.cur + 7 ∧ RdP b.cells b.el (toP E)
  flo : B.val h.floor ≤ B.val id
  lt : B.val id < B.val h.next
  nod : (keysE E).Nodup
theorem MapC.stay {p : B → Prop} {h h' : H} {id : B} {E : En} (m : MapC h id E) (s : Stay p h h') (hp : ¬ p id) : MapC h' id E := by
  obtain ⟨b, h1, h2⟩ := m.blk
  exact ⟨⟨b, (s.get id m.lt hp).trans h1, h2⟩, by rw [s.floor]; exact m.flo, Nat.lt_of_lt_of_le m.lt s.next, m.nod⟩
theorem MapC.read {h : H} {id : B} {E : En} (m : MapC h id E) : ∃ next floor heap cur size fr, h = ⟨next, floor, heap⟩ ∧ B.geB floor id = true ∧ ∀ k, mapK h id k = k next floor heap cur (cur + 7) size fr (toP E) := by
  obtain ⟨⟨cur, min, size, cells, n, fr⟩, h1, h2, h4⟩ := m.blk
  obtain ⟨next, floor, heap⟩ := h
  simp only at h2 h4
  subst h2
  refine ⟨next, floor, heap, cur, size, fr, rfl, ?_, fun k => ?_⟩
  · have := m.flo
    cases floor <;> first | rfl | (show Nat.ble _ _ = true; rw [Nat.ble_eq]; exact this)
  · have h1' : heap.get id = some ⟨cur, cur + 7, size, cells, n, fr⟩ := h1
    have e7 : Nat.beq (cur + 7) (cur + 7) = true := Nat.beq_refl _
    simp only [mapK, hK_mk, h1', optK_some, blkK_mk, e7, ifK_true]
    exact getP_fine n cells 0 (toP E) h4.1 (fun i kv hi => by simpa using h4.2 i kv hi) _
theorem MapC.write {next floor : B} {heap : T Blk} {id : B} {E : En} (m : MapC ⟨next, floor, heap⟩ id E) (cur size fr : Nat) {F : En} (hl : 2 * F.length < 2 ^ 38) (hn : (keysE F).Nodup) :
    ∃ h', (∀ k, putM next floor heap id cur (cur + 7) size fr (toP F) k = k h') ∧ MapC h' id F ∧ Stay (fun i => i = id) ⟨next, floor, heap⟩ h' := by
  have hfl : B.geB floor id = true := by
    have := m.flo
    cases floor <;> first | rfl | (show Nat.ble _ _ = true; rw [Nat.ble_eq]; exact this)
  obtain ⟨t, t1, t2, t3⟩ := setList_fine (flat2 (toP F)) 0 .o (by rw [flat2_len]; unfold toP; rw [List.length_map, Nat.zero_add]; exact hl)
  obtain ⟨hp, s1, s2, s3⟩ := setK_ok id (⟨cur, cur + 7, size, t, (toP F).length, fr⟩ : Blk) heap
  refine ⟨⟨next, floor, hp⟩, fun k => by unfold putM; rw [hfl, ifK_true, t1, s1], ⟨⟨_, s2, rfl, rfl, fun i kv hi => ?_⟩, m.flo, m.lt, hn⟩, ⟨rfl, Nat.le_refl _, fun i _ hi => s3 i hi⟩⟩
  obtain ⟨f1, f2⟩ := flat2_get _ i kv hi
  exact ⟨by have := t2 _ _ f1; rwa [Nat.zero_add] at this, by have := t2 _ _ f2; rwa [Nat.zero_add] at this⟩
theorem toP_len (E : En) : (toP E).length = E.length := by simp [toP]
theorem toP_app (E : En) (k : List UInt8) (v : V) : toP (E ++ [(k, v)]) = toP E ++ [(sv k, v)] := by simp [toP]
theorem keysE_len (E : En) : (keysE E).length = E.length := by simp [keysE]
def LK (P : Program) (z : V) (ok : Bool) (x q : V) (h : H) (N : Nx) : Prop := HV P (fun k => vM x (fun _ => optK (keyEq none q q) fun _ => k (lkRes ok z false)) fun id => mapK h id fun _ _ _ _ _ _ _ ps => optK (findP none q ps) fun r => match r with
    | some i => k (lkRes ok ((ps.getD i (.u, .u)).2) true)
    | none => k (lkRes ok z false)) h N
def MLn (P : Program) (x : V) (h : H) (N : Nx) : Prop := HV P (fun k => vM x (fun _ => k (.i .i64 (.ofNat 0))) fun id => mapK h id fun _ _ _ _ _ _ _ ps => k (.i .i64 (.ofNat ps.length))) h N
def MU (P : Program) (x q v : V) (h : H) (N : Nx) : Prop := HM P (fun k => vM x (fun _ => false) fun id => mapK h id fun next floor heap cur min el fr ps => optK (findP none q ps) fun r => match r with
    | some i => putM next floor heap id cur min el fr (ps.set i (q, v)) fun h => k (.tu []) h
    | none => putM next floor heap id cur min el fr (ps ++ [(q, v)]) fun h => k (.tu []) h) N
def MD (P : Program) (x q : V) (h : H) (N : Nx) : Prop := HM P (fun k => vM x (fun _ => optK (keyEq none q q) fun _ => k (.tu []) h) fun id => mapK h id fun next floor heap cur min el fr ps => optK (findP none q ps) fun r => match r with
    | some i => putM next floor heap id cur min el fr (ps.eraseIdx i) fun h => k (.tu []) h
    | none => ifK (B.geB floor id) fun _ => k (.tu []) h) N
def MN (P : Program) (h : H) (N : Nx) : Prop := HM P (doMakeMap.newM h) N
section
variable {P : Program} {t : F} {h : H} {N : Nx} {x q v : O} {z : V} {ok : Bool}
theorem or_lookup : OR P (doLookup none z ok x q) t h N = LK P z ok (oV x t) (oV q t) h N := or_hv fun cf k => by
  simp only [doLookup, oE_eq]; rfl
theorem or_mapLen : OR P (doMapLen x) t h N = MLn P (oV x t) h N := or_hv fun cf k => by simp only [doMapLen, oE_eq]
theorem or_mapSet : OR P (doMapSet none x q v) t h N = MU P (oV x t) (oV q t) (oV v t) h N := or_hm fun cf k => by simp only [doMapSet, oE_eq]; rfl
theorem or_mapDel : OR P (doMapDel none x q) t h N = MD P (oV x t) (oV q t) h N := or_hm fun cf k => by simp only [doMapDel, oE_eq]; rfl
theorem or_makeMap0 : OR P (doMakeMap none) t h N = MN P h N := or_hm fun cf k => rfl
theorem or_makeMap1 {r : O} {kd : IntKind} {n : Int} (e : oV r t = .i kd n) : OR P (doMakeMap (some r)) t h N = MN P h N := or_hm fun cf k => by
  show oE r t (fun r => vI r fun _ _ => doMakeMap.newM h k) = _
  rw [oE_eq, e]; rfl
end
theorem lkRes_t (v : V) (b : Bool) : lkRes true v b = .tu [v, .b b] := rfl
theorem lkRes_f (v : V) (b : Bool) : lkRes false v b = v := rfl
theorem keyEq_self (k : List UInt8) : keyEq none (sv k) (sv k) = some true := by
  show some (eqS k.length (pk k) k.length (pk k)) = _
  rw [eqS_sv, decide_eq_true rfl]
section
variable {P : Program} {h : H} {N : Nx} {z v : V} {ok : Bool} {k : List UInt8} {id : B} {E : En}
theorem lk_nil : LK P z ok .m0 (sv k) h N = N.go P (lkRes ok z false) h := hv_of fun q => by
  show optK (keyEq none (sv k) (sv k)) (fun _ => q (lkRes ok z false)) = _
  rw [keyEq_self]; rfl
theorem mln_nil : MLn P .m0 h N = N.go P (.i .i64 0) h := hv_of fun q => rfl
/-- m[k] = v -/
theorem MU.mk (m : MapC h id E) (hl : E.length ≤ 1048576) (kk : ∀ h', MapC h' id (setE E k v) → Stay (fun i => i = id) h h' → N.go P (.tu []) h') : MU P (.m id) (sv k) v h N := by
  obtain ⟨next, floor, heap, cur, size, fr, rfl, _, hr⟩ := m.read
  cases hi : idxE E k with
  | none =>
    obtain ⟨h', w1, w2, w3⟩ := m.write cur size fr (F := setE E k v) (by rw [(idxE_none hi).2.1]; simp; omega) (nodup_set m.nod k v)
    refine hm_of (v := .tu []) (h' := h') (fun q => ?_) (kk h' w2 w3)
    show mapK _ id _ = _
    rw [hr]
    show optK (findP none (sv k) (toP E)) _ = _
    rw [findP_sv, hi]
    show putM next floor heap id cur (cur + 7) size fr (toP E ++ [(sv k, v)]) _ = _
    rw [← toP_app]
    have := w1 fun h => q (.tu []) h
    rwa [(idxE_none hi).2.1] at this
  | some i =>
    obtain ⟨h', w1, w2, w3⟩ := m.write cur size fr (F := setE E k v) (by rw [← toP_len, (idxE_some hi).1]; simp [toP_len]; omega) (nodup_set m.nod k v)
    refine hm_of (v := .tu []) (h' := h') (fun q => ?_) (kk h' w2 w3)
    show mapK _ id _ = _
    rw [hr]
    show optK (findP none (sv k) (toP E)) _ = _
    rw [findP_sv, hi]
    show putM next floor heap id cur (cur + 7) size fr ((toP E).set i (sv k, v)) _ = _
    rw [← (idxE_some hi).1]
    exact w1 _
theorem md_nil : MD P .m0 (sv k) h N = N.go P (.tu []) h := propext ⟨fun ⟨v, h', e, kk⟩ => by
    have e' : ∀ q : V → H → Bool, q (.tu []) h = q v h' := fun q => by
      rw [← e q]
      show _ = optK (keyEq none (sv k) (sv k)) (fun _ => q (.tu []) h)
      rw [keyEq_self]; rfl
    obtain ⟨rfl, rfl⟩ := vh_of e'
    exact kk, fun kk => ⟨_, _, fun q => by
      show optK (keyEq none (sv k) (sv k)) (fun _ => q (.tu []) h) = _
      rw [keyEq_self]; rfl, kk⟩⟩
/-- delete(m, k) -/
theorem MD.mk (m : MapC h id E) (hl : E.length ≤ 1048576) (kk : ∀ h', MapC h' id (delE E k) → Stay (fun i => i = id) h h' → N.go P (.tu []) h') : MD P (.m id) (sv k) h N := by
  obtain ⟨next, floor, heap, cur, size, fr, rfl, hfl, hr⟩ := m.read
  cases hi : idxE E k with
  | none =>
    refine hm_of (v := .tu []) (h' := ⟨next, floor, heap⟩) (fun q => ?_) (kk _ (by rw [(idxE_none hi).2.2]; exact m) (Stay.refl _ _))
    show mapK _ id _ = _
    rw [hr]
    show optK (findP none (sv k) (toP E)) _ = _
    rw [findP_sv, hi]
    show ifK (B.geB floor id) _ = _
    rw [hfl]; rfl
  | some i =>
    obtain ⟨h', w1, w2, w3⟩ := m.write cur size fr (F := delE E k) (by have := (keys_del_sub E k).length_le; rw [keysE_len, keysE_len] at this; omega) (nodup_del m.nod k)
    refine hm_of (v := .tu []) (h' := h') (fun q => ?_) (kk h' w2 w3)
    show mapK _ id _ = _
    rw [hr]
    show optK (findP none (sv k) (toP E)) _ = _
    rw [findP_sv, hi]
    show putM next floor heap id cur (cur + 7) size fr ((toP E).eraseIdx i) _ = _
    rw [← (idxE_some hi).2]
    exact w1 _
/-- make(map[string]..) -/
theorem MN.mk (hf : B.val h.floor ≤ B.val h.next) (kk : ∀ h', MapC h' h.next [] → Stay nowhere h h' → B.val h'.next = B.val h.next + 1 → N.go P (.m h.next) h') : MN P h N := by
  obtain ⟨next, floor, heap⟩ := h
  obtain ⟨hp, s1, s2, s3⟩ := setK_ok next (⟨0, 7, 0, .o, 0, 0⟩ : Blk) heap
  obtain ⟨nx, n1, n2⟩ := incK_ok next
  refine hm_of (v := .m next) (h' := ⟨nx, floor, hp⟩) (fun q => ?_) (kk ⟨nx, floor, hp⟩ ⟨⟨_, s2, rfl, rfl, fun i kv hi => by simp [toP] at hi⟩, hf, by show B.val next < B.val nx; omega, .nil⟩ ⟨rfl, by show B.val next ≤ B.val nx; omega, fun i hi _ => s3 i fun e => by rw [e] at hi; exact absurd hi (Nat.lt_irrefl _)⟩ n2)
  unfold doMakeMap.newM
  simp only [hK_mk]
  rw [s1, n1]
theorem h2_nilM0 {ne : Bool} : H2 P (gNil vMN ne) .m0 .m0 h N = N.go P (.b (!ne)) h := hv_of fun k => by cases ne <;> rfl
theorem h2_nilM1 {ne : Bool} {id : B} : H2 P (gNil vMN ne) (.m id) .m0 h N = N.go P (.b ne) h := hv_of fun k => by cases ne <;> rfl
end
theorem option_getD_some {v z : V} : (some v : Option V).getD z = v := rfl
theorem option_getD_none {z : V} : (none : Option V).getD z = z := rfl
theorem option_isSome_some {v : V} : (some v : Option V).isSome = true := rfl
theorem option_isSome_none : (none : Option V).isSome = false := rfl
def mwk := (And.intro @or_lookup (And.intro @or_mapLen (And.intro @or_mapSet (And.intro @or_mapDel (And.intro @or_makeMap0 (And.intro @lkRes_t (And.intro @lkRes_f (And.intro @lk_nil (And.intro @mln_nil (And.intro @md_nil (And.intro @h2_nilM0 (And.intro @h2_nilM1 (And.intro @option_getD_some (And.intro @option_getD_none (And.intro @option_isSome_some @option_isSome_none)))))))))))))))
/-- what a map holds, be it nil -/
def MpV (h : H) (v : V) (E : En) : Prop := (v = .m0 ∧ E = []) ∨ ∃ id, v = .m id ∧ MapC h id E
section
variable {P : Program} {h : H} {N : Nx} {z v : V} {ok : Bool} {k : List UInt8} {E : En}
theorem MpV.nod (m : MpV h v E) : (keysE E).Nodup := by
  rcases m with ⟨rfl, rfl⟩ | ⟨id, rfl, m⟩
  · exact List.nodup_nil
  · exact m.nod
end
end Go.Ev

set_option linter.all false
namespace Go.Ev
open Go
/-- what lies below the floor was there when w0 was -/
def Dn (ρ : Emb) (h : H) (w0 : World) : Prop := ∀ id g L, B.val id < B.val h.floor → ρ id g = some L → L.b < w0.heap.size
theorem Dn.up {ρ ρ' : Emb} {h h' : H} {w0 : World} (d : Dn ρ h w0) (hf : h'.floor = h.floor) (e : Ext h.floor ρ ρ') : Dn ρ' h' w0 := fun id g L hi hL => by
  rw [hf] at hi
  rcases e.2 _ _ _ hL with h | h
  · exact d _ _ _ hi h
  · exact absurd h (Nat.not_le.2 hi)
theorem Dn.re {ρ : Emb} {h : H} {w w0 : World} (R : HRel ρ h w w0) : Dn ρ (reFloor h) w := fun id g L _ hL => by
  obtain ⟨_, _, _, a3, _⟩ := R.loc _ _ _ hL
  exact a3
/-- the code c, from that state, comes to states of which K holds -/
def CodeN (P : Program) (nt : Nat) (c : Code) (t : F) (h : H) (K : X → F → H → Prop) : Prop :=
  ∀ ρ a w w0 (Q : Exit → Act → World → Prop), Dn ρ h w0 → ARel ρ nt t a → HRel ρ h w w0 →
    (∀ x t' h' ρ' a' w', K x t' h' → KeepF h h' → B.val h.next ≤ B.val h'.next → Ext h.floor ρ ρ' → ARel ρ' nt t' a' → HRel ρ' h' w' w0 → Q (xOf x) a' w') → c.wp P Q a w
section
variable {P : Program} {nt : Nat} {t : F} {h : H} {K : X → F → H → Prop} {c c1 c2 : Code}
theorem CodeN.of {cc : CC} (e : comp P nt c = cc) (k : Ok P nt cc t h K) : CodeN P nt c t h K := by
  obtain ⟨x, t', h', s, kk⟩ := k
  obtain ⟨s1, s2, s3⟩ := s c e
  exact fun ρ a w w0 Q _ A R hQ => s3 ρ a w w0 Q A R fun ρ' a' w' l A' R' => hQ x t' h' ρ' a' w' kk s1 s2 l A' R'
theorem CodeN.mono {K' : X → F → H → Prop} (a : CodeN P nt c t h K) (hk : ∀ x t h, K x t h → K' x t h) : CodeN P nt c t h K' :=
  fun ρ b w w0 Q D A R hQ => a ρ b w w0 Q D A R fun x t' h' ρ' a' w' k => hQ x t' h' ρ' a' w' (hk _ _ _ k)
/-- behind the first part -/
def SqN (P : Program) (nt : Nat) (c : Code) (K : X → F → H → Prop) : X → F → H → Prop
  | .normal, t, h => CodeN P nt c t h K
  | x, t, h => K x t h
theorem CodeN.seq (a : CodeN P nt c1 t h (SqN P nt c2 K)) : CodeN P nt (.seq c1 c2) t h K := by
  intro ρ b w w0 Q D A R hQ
  refine wp_seq (a ρ b w w0 _ D A R fun x t1 h1 ρ1 a1 w1 k k1 k2 k3 A1 R1 => ?_)
  cases x with
  | normal => exact k ρ1 a1 w1 w0 Q (D.up k1.1 k3) A1 R1 fun x t2 h2 ρ2 a2 w2 kk l1 l2 l3 A2 R2 => hQ x t2 h2 ρ2 a2 w2 kk (KeepF.trans k1 k2 l1) (Nat.le_trans k2 l2) (Ext.trans k3 (by rw [← k1.1]; exact l3)) A2 R2
  | exit id => exact hQ _ _ _ _ _ _ k k1 k2 k3 A1 R1
  | ret => exact hQ _ _ _ _ _ _ k k1 k2 k3 A1 R1
theorem CodeN.block {id : Nat} (a : CodeN P nt c t h (Out id K)) : CodeN P nt (.block id c) t h K := by
  intro ρ b w w0 Q D A R hQ
  refine wp_block (a ρ b w w0 _ D A R fun x t1 h1 ρ1 a1 w1 k k1 k2 k3 A1 R1 => ?_)
  cases x with
  | normal => exact hQ .normal t1 h1 ρ1 a1 w1 k k1 k2 k3 A1 R1
  | ret => exact hQ .ret t1 h1 ρ1 a1 w1 k k1 k2 k3 A1 R1
  | exit j =>
    have k' : (if j = id then K .normal t1 h1 else K (.exit j) t1 h1) := k
    show (if j = id then Q .normal a1 w1 else Q (.exit j) a1 w1)
    by_cases hj : j = id
    · rw [if_pos hj] at k' ⊢; exact hQ .normal t1 h1 ρ1 a1 w1 k' k1 k2 k3 A1 R1
    · rw [if_neg hj] at k' ⊢; exact hQ (.exit j) t1 h1 ρ1 a1 w1 k' k1 k2 k3 A1 R1
/-- a function whose outcome hangs on an order -/
def FnN (P : Program) (f : FuncId) (vs : List V) (h : H) (K : V → H → Prop) : Prop :=
  ∀ ρ w w0 args, LRel ρ vs args → Dn ρ h w0 → HRel ρ h w w0 →
    (callFunc f args.toArray).run P w = .ok (.enter f args.toArray) w ∧ Calls P f args.toArray w fun e w' => ∃ x v h', e = .returned x ∧ K v h' ∧ KeepF h h' ∧ B.val h.next ≤ B.val h'.next ∧ Done h.floor ρ w0 v h' x w'
theorem FnN.of {f : FuncId} {vs : List V} {K : V → H → Prop} (a : FnOk P f vs h K) : FnN P f vs h K := by
  obtain ⟨v, h', ⟨a1, a2, a3⟩, k⟩ := a
  intro ρ w w0 args hl _ R
  obtain ⟨b1, b2⟩ := a3 ρ w w0 args hl R
  exact ⟨b1, b2.mono fun e w' ⟨x, e1, d⟩ => ⟨x, v, h', e1, k, a1, a2, d⟩⟩
/-- .. that does not show, for a function that leaves all as it was -/
theorem FnN.pure {f : FuncId} {vs : List V} {v : V} (a : FnN P f vs (reFloor h) fun y _ => y = v) (hv : ∀ ρ ρ' x, VRel ρ v x → VRel ρ' v x) : FnOk P f vs h fun y h' => y = v ∧ h' = h := by
  refine ⟨v, h, ⟨KeepF.refl h, Nat.le_refl _, fun ρ w w0 args hl R => ?_⟩, rfl, rfl⟩
  obtain ⟨b1, b2⟩ := a ρ w w args hl (Dn.re R) R.refloor
  refine ⟨b1, b2.mono fun e w' ⟨x, y, h', e1, k, _, _, ρ', q1, q2, q3⟩ => ⟨x, e1, ρ, Ext.refl _ ρ, ?_, ?_⟩⟩
  · rw [k] at q2; exact hv _ _ _ q2
  · exact R.grow q3.old q3.siz q3.tp q3.os q3.out
theorem fn_n {f : FuncId} {fn : Func} {body : Code} {rs : List Rs} {vs : List V} {K : V → H → Prop} (hfn : P.funcs.toList[f]? = some fn) (hb : fn.body = some body) (hnm : (fn.name == "runtime.NumGoroutine") = false)
    (hrs : fn.results.toList.map (rsOf P) = rs) (hl1 : vs.length ≤ fn.ntmps) (hl2 : vs.length ≤ 512)
    (ok : CodeN P fn.ntmps body (slotsF vs 0 F.zero) h (FnK rs K)) : FnN P f vs h K := by
  intro ρ w w0 args hargs D R
  have hfn' : P.funcs[f]? = some fn := by simpa using hfn
  have hal := hargs.length
  obtain ⟨t0, s1, s2, s3⟩ := slots_ok vs 0 F.zero (fun _ => true) (by omega)
  have ht0 : t0 = slotsF vs 0 F.zero := by
    have := s1 fun u => @decide (u = t0) (Classical.propDecidable _)
    rw [slots_slotsF] at this
    simp at this
    exact this.symm
  constructor
  · have hp : (program : Sem Program).run P w = .ok P w := rfl
    unfold callFunc
    simp only [Sem.run_bind, hp, Result.andThen_ok, hfn', hnm, Bool.false_eq_true, if_false, hb, Option.isNone_some]
    rfl
  · refine calls_of_wp hfn' hb ?_
    have A0 : ARel ρ fn.ntmps t0 { tmps := args.toArray ++ Array.replicate (fn.ntmps - args.toArray.size) undef, defers := [] } := by
      refine ⟨rfl, by simp; omega, fun m hm => ?_⟩
      by_cases hmv : m < vs.length
      · have hv : vs[m]? = some (vs[m]'hmv) := by simp
        obtain ⟨y, y1, y2⟩ := hargs.get hv
        have := s2 m _ hv
        rw [Nat.zero_add] at this
        rw [this]
        have hy : (args.toArray ++ Array.replicate (fn.ntmps - args.toArray.size) undef).getD m undef = y := by
          have hma : m < args.length := by omega
          rw [Array.getD_eq_getD_getElem?, Array.getElem?_append_left (by simpa using hma)]
          simp [y1]
        rw [hy]; exact y2
      · rw [s3 m hm (.inr (by omega)), zero_slot]; trivial
    rw [ht0] at A0
    refine ok ρ _ w w0 _ D A0 R fun x t' h' ρ' a' w' k k1 k2 k3 A' R' => ?_
    have fin : x ≠ .normal → x ≠ .ret → False := fun h1 h2 => by
      cases x with
      | normal => exact h1 rfl
      | ret => exact h2 rfl
      | exit id => exact k
    have main : ∃ us, (∀ q : List V → Bool, resK rs t' h' q = q us) ∧ K (one us) h' := by
      cases x with
      | normal => exact k
      | ret => exact k
      | exit id => exact absurd k (fun h => h)
    obtain ⟨us, r1, kk⟩ := main
    obtain ⟨us', q1, q2⟩ := results_ok (nt := fn.ntmps) (fn := fn) (P := P) (t := t') (h := h') (k := fun _ => true) (by rw [hrs, r1])
    have hus : us' = us := by
      have := q1 fun u => @decide (u = us') (Classical.propDecidable _)
      rw [hrs, r1] at this
      simp at this
      exact this.symm
    subst hus
    obtain ⟨y, y1, y2⟩ := q2 ρ' a' w' w0 A' R'
    cases x with
    | normal => exact ⟨A'.defers, y, y2, y, _, h', rfl, kk, k1, k2, ρ', k3, y1, R'⟩
    | ret => exact ⟨A'.defers, y, y2, y, _, h', rfl, kk, k1, k2, ρ', k3, y1, R'⟩
    | exit id => exact absurd k (fun h => h)
end
theorem opsRel_pre {P : Program} {nt : Nat} {ops : Array Oper} (bars : Nat → Bool) (rest : List Oper) : ∀ (l : List Oper) (n : Nat), ops.toList.drop n = l ++ rest → ∀ (t : F) (h : H) (t' : F) (h' : H),
    OpsRel P (compOpsWith bars P nt ops.toList (compOp P) n l) t h t' h' → KeepF h h' ∧ B.val h.next ≤ B.val h'.next ∧
      ∀ ρ a w w0 (Q : Exit → Act → World → Prop), ARel ρ nt t a → HRel ρ h w w0 → (∀ ρ' a' w', Ext h.floor ρ ρ' → ARel ρ' nt t' a' → HRel ρ' h' w' w0 → wpOps P ops Q (List.range' (n + l.length) rest.length) a' w') →
        wpOps P ops Q (List.range' n (l.length + rest.length)) a w := by
  intro l
  induction l with
  | nil =>
    intro n hl t h t' h' hk
    obtain ⟨rfl, rfl⟩ := hk
    exact ⟨KeepF.refl _, Nat.le_refl _, fun ρ a w w0 Q A R hq => by simpa using hq ρ a w (Ext.refl _ ρ) A R⟩
  | cons o l ih =>
    intro n hl t h t' h' hk
    obtain ⟨t1, h1, hk1, hk2⟩ := hk
    obtain ⟨cf, hcf, e⟩ := opRel_run hk1
    obtain ⟨t1', h1', a1, a2, a3, a4⟩ := op_ok hcf (ops := ops) (ih := fun t h k => k t h) (k := fun _ _ => true) (e _ _)
    obtain ⟨rfl, rfl⟩ := same_of (fun k => (e (fun t h k => k t h) k).symm.trans (a1 k))
    have hl' : ops.toList.drop (n + 1) = l ++ rest := by rw [← List.drop_drop, hl]; rfl
    obtain ⟨b2, b3, b4⟩ := ih (n + 1) hl' _ _ _ _ hk2
    refine ⟨KeepF.trans a2 a3 b2, Nat.le_trans a3 b3, fun ρ a w w0 Q A R hq => ?_⟩
    have hn : ops[n]? = some o := by
      have : ops.toList[n]? = some o := by
        have := congrArg (fun l => l[0]?) hl
        simpa using this
      simpa using this
    rw [show (o :: l).length + rest.length = (l.length + rest.length) + 1 by simp; omega, List.range'_succ, wpOps_cons]
    unfold wpOp
    simp only [hn]
    have := a4 ρ a w w0 (wpOps P ops Q (List.range' (n + 1) (l.length + rest.length))) Q A R fun ρ' a' w' l1 A' R' => b4 ρ' a' w' w0 Q A' R' fun ρ'' a'' w'' l2 A'' R'' => by
      have := hq ρ'' a'' w'' (Ext.trans l1 (by rw [← a2.1]; exact l2)) A'' R''
      rwa [show n + (o :: l).length = n + 1 + l.length by simp; omega] at this
    split
    · rename_i hw; simp only [hw, if_true] at this; exact .inl this
    · rename_i hw; simp only [hw] at this; exact this
theorem arel_put {ρ : Emb} {nt : Nat} {t : F} {a : Act} {d : Nat} {v : V} {x : Value} (A : ARel ρ nt t a) (hv : VRel ρ v x) (h1 : d < nt) (h2 : d < 512) : ARel ρ nt (put d v t) (a.put (some d) x) := by
  have e : dOf nt (some d) = .some (slOf d) := by
    have b1 : Nat.ble (Nat.succ d) nt = true := by rw [Nat.ble_eq]; exact h1
    have b2 : Nat.ble (Nat.succ d) 512 = true := by rw [Nat.ble_eq]; exact h2
    show (match Nat.ble (Nat.succ d) nt && Nat.ble (Nat.succ d) 512 with | true => D.some (slOf d) | false => D.bad) = _
    rw [b1, b2]; rfl
  have hk : putD (dOf nt (some d)) v t (fun _ => true) = true := by rw [e, putS]
  obtain ⟨t', p1, p2⟩ := dOf_ok hk
  have : t' = put d v t := f_of (v := put d v t) (u := t') fun k => by have := p1 k; rw [e, putS] at this; exact this
  rw [← this]
  exact p2 ρ a x A hv
/-- a block's next generation, of which it is known just what lies there -/
theorem bump_ex {h : H} {id : B} {blk : Blk} (hb : h.heap.get id = some blk) (hm : blk.cur < blk.min) (hfl : B.val h.floor ≤ B.val id) :
    ∃ h', KeepF h h' ∧ Stay (fun i => i = id) h h' ∧ h'.next = h.next ∧ h'.heap.get id = some ⟨blk.cur + 1, blk.cur + 10, blk.size, blk.cells, blk.el, blk.fr⟩ ∧
      ∀ (ρ : Emb) (w w' w0 : World) (L0 : Loc) (o : ItO), HRel ρ h w w0 → ρ id 0 = some L0 → (∀ b : Nat, b ≠ L0.b → w'.heap[b]? = w.heap[b]?) → w'.heap.size = w.heap.size → w'.tape = w.tape → w'.os = w.os → w'.output = w.output → w'.heap[L0.b]? = some (objOf o) →
        ∃ ρ', Ext h.floor ρ ρ' ∧ ρ' id (blk.cur + 1) = some ⟨L0.b, L0.s, blk.size, L0.cs, some o⟩ ∧ HRel ρ' h' w' w0 := by
  obtain ⟨next, floor, heap⟩ := h
  obtain ⟨cur, min, size, cells, el, fr⟩ := blk
  obtain ⟨hp, h4, h5, h6⟩ := setK_ok id (⟨cur + 1, cur + 10, size, cells, el, fr⟩ : Blk) heap
  have hb' : heap.get id = some ⟨cur, min, size, cells, el, fr⟩ := hb
  refine ⟨⟨next, floor, hp⟩, ⟨rfl, fun hf i hi => h6 i fun e => by rw [e] at hi; exact absurd hfl (Nat.not_le.2 hi)⟩, ⟨rfl, Nat.le_refl _, fun i _ hi => h6 i hi⟩, rfl, h5, fun ρ w w' w0 L0 o R hL hw hs hz ho ht hn => ?_⟩
  have bk : ∀ {g : Nat} {M : Loc}, ρ id g = some M → g ≤ cur ∧ M.b < w.heap.size ∧ M.s ≤ M.e ∧ M.e ≤ size ∧ M.s = L0.s ∨ g ≤ cur ∧ M.b < w.heap.size ∧ M.s ≤ M.e ∧ M.e ≤ size := fun {g M} hM => by
    obtain ⟨blk, a1, a2, a3, a4, a5, _⟩ := R.loc _ _ _ hM
    have : heap.get id = some blk := a1
    rw [hb'] at this
    have := Option.some.inj this
    subst this
    exact .inr ⟨a2, a3, a4, a5 (.inr hm)⟩
  have hnone : ρ id (cur + 1) = none := by
    cases hr : ρ id (cur + 1) with
    | none => rfl
    | some M =>
      obtain ⟨blk, a1, a2, _⟩ := R.loc _ _ _ hr
      have : heap.get id = some blk := a1
      rw [hb'] at this
      have := Option.some.inj this
      subst this
      exact absurd a2 (by show ¬ cur + 1 ≤ cur; omega)
  have hle := Emb.put_le (⟨L0.b, L0.s, size, L0.cs, some o⟩ : Loc) hnone
  have hcase : ∀ {i g L}, ρ.put id (cur + 1) ⟨L0.b, L0.s, size, L0.cs, some o⟩ i g = some L → (i = id ∧ g = cur + 1 ∧ L = ⟨L0.b, L0.s, size, L0.cs, some o⟩) ∨ ρ i g = some L := by
    intro i g L hL
    by_cases e : i = id ∧ g = cur + 1
    · left; obtain ⟨rfl, rfl⟩ := e; rw [Emb.put_same] at hL; exact ⟨rfl, rfl, (Option.some.inj hL).symm⟩
    · right; rwa [Emb.put_other _ _ _ _ e] at hL
  obtain ⟨blk0, z1, z2, z3, z4, z5, z6, z7⟩ := R.loc _ _ _ hL
  have hz0 : blk0 = ⟨cur, min, size, cells, el, fr⟩ := by
    have : heap.get id = some blk0 := z1
    rw [hb'] at this; exact (Option.some.inj this).symm
  subst hz0
  have oth : ∀ {i : B} {g : Nat} {M : Loc}, ρ i g = some M → i ≠ id → w'.heap[M.b]? = w.heap[M.b]? := fun {i g M} hM hi => hw _ fun e => hi (R.sep _ _ _ _ _ _ hM hL e).1
  refine ⟨ρ.put id (cur + 1) ⟨L0.b, L0.s, size, L0.cs, some o⟩, Ext.put hnone hfl, Emb.put_same _ _ _ _, ?_⟩
  refine ⟨fun i g M hM => ?_, fun i g M hM => ?_, fun i g M i' g' M' hM hM' hbb => ?_, R.flo, fun b hb0 => ?_, fun i g M hM hf => ?_, hz.trans R.tp, ho.trans R.os, ht.trans R.out, by rw [hs]; exact R.siz, fun i M bl hM hbl kc hmm => ?_, fun i g M bl q hM hbl hg hmm hq => ?_⟩
  · rcases hcase hM with ⟨rfl, rfl, rfl⟩ | hN
    · exact ⟨_, h5, Nat.le_refl _, by rw [hs]; exact z3, Nat.le_trans z4 (z5 (.inr hm)), fun _ => Nat.le_refl _, fun _ => rfl, fun hmm => by have hmm : cur + 10 ≤ cur + 1 := hmm; omega⟩
    · obtain ⟨bl, a1, a2, a3, a4, a5, a6, a7⟩ := R.loc _ _ _ hN
      by_cases hi : i = id
      · subst hi
        have : heap.get i = some bl := a1
        rw [hb'] at this
        have := Option.some.inj this
        subst this
        have a2' : g ≤ cur := a2
        exact ⟨_, h5, by show g ≤ cur + 1; omega, by rw [hs]; exact a3, a4, fun _ => a5 (.inr hm), fun e => by have e : g = cur + 1 := e; omega, fun hmm => by have hmm : cur + 10 ≤ g := hmm; omega⟩
      · refine ⟨bl, (h6 i hi).trans a1, a2, by rw [hs]; exact a3, a4, a5, a6, fun hmm => ?_⟩
        obtain ⟨c, e2, b1, b2, b3, b4⟩ := a7 hmm
        refine ⟨c, e2, b1.congr (oth hN hi), b2, b3, fun j j1 j2 => ?_⟩
        obtain ⟨v, x, d1, d2, d3⟩ := b4 j j1 j2
        exact ⟨v, x, d1, d2, VRel.up hle _ _ d3⟩
  · rcases hcase hM with ⟨rfl, _, _⟩ | hN
    · exact R.ids _ _ _ hL
    · exact R.ids _ _ _ hN
  · rcases hcase hM with ⟨i1, i2, i3⟩ | hN <;> rcases hcase hM' with ⟨j1, j2, j3⟩ | hN'
    · exact ⟨i1.trans j1.symm, by rw [i3, j3]⟩
    · have := R.sep _ _ _ _ _ _ hL hN' (by rw [← hbb, i3])
      exact ⟨i1.trans this.1, by rw [i3]; exact this.2⟩
    · have := R.sep _ _ _ _ _ _ hN hL (by rw [hbb, j3])
      exact ⟨this.1.trans j1.symm, by rw [j3]; exact this.2⟩
    · exact R.sep _ _ _ _ _ _ hN hN' hbb
  · rw [hw]
    · exact R.old b hb0
    · have := R.up _ _ _ hL hfl; omega
  · rcases hcase hM with ⟨rfl, _, rfl⟩ | hN
    · have := R.up _ _ _ hL hf
      exact this
    · exact R.up _ _ _ hN hf
  · by_cases hi : i = id
    · subst hi
      have hb2 : hp.get i = some bl := hbl
      rw [h5] at hb2
      have hb3 := Option.some.inj hb2
      subst hb3
      have hmm : cur + 10 = cur + 1 + kdN kc := hmm
      exact absurd hmm (by cases kc <;> simp [kdN] <;> omega)
    · rcases hcase hM with ⟨e1, _, _⟩ | hN
      · exact absurd e1 hi
      · obtain ⟨o1, q1, q2⟩ := R.mp i M bl hN ((h6 i hi).symm.trans hbl) kc hmm
        exact ⟨o1, (oth hN hi).trans q1, q2.up hle⟩
  · by_cases hi : i = id
    · subst hi
      have hb2 : hp.get i = some bl := hbl
      rw [h5] at hb2
      have hb3 := Option.some.inj hb2
      subst hb3
      rcases hcase hM with ⟨_, _, rfl⟩ | hN
      · cases hq; exact hn
      · obtain ⟨bl, a1, a2, _⟩ := R.loc _ _ _ hN
        have : heap.get i = some bl := a1
        rw [hb'] at this
        have := Option.some.inj this
        subst this
        have a2' : g ≤ cur := a2
        have hg : cur + 1 = g := hg
        omega
    · rcases hcase hM with ⟨e1, _, _⟩ | hN
      · exact absurd e1 hi
      · exact (oth hN hi).trans (R.ito i g M bl q hN ((h6 i hi).symm.trans hbl) hg hmm hq)
theorem HRel.bump {ρ : Emb} {h : H} {w w' w0 : World} (R : HRel ρ h w w0) {id : B} {blk : Blk} (hb : h.heap.get id = some blk) (hm : blk.cur < blk.min) (hfl : B.val h.floor ≤ B.val id) {L0 : Loc} (hL : ρ id 0 = some L0) {o : ItO}
    (hw : ∀ b : Nat, b ≠ L0.b → w'.heap[b]? = w.heap[b]?) (hs : w'.heap.size = w.heap.size) (hz : w'.tape = w.tape) (ho : w'.os = w.os) (ht : w'.output = w.output) (hn : w'.heap[L0.b]? = some (objOf o)) :
    ∃ h' ρ', KeepF h h' ∧ Stay (fun i => i = id) h h' ∧ h'.next = h.next ∧ h'.heap.get id = some ⟨blk.cur + 1, blk.cur + 10, blk.size, blk.cells, blk.el, blk.fr⟩ ∧ Ext h.floor ρ ρ' ∧ ρ' id (blk.cur + 1) = some ⟨L0.b, L0.s, blk.size, L0.cs, some o⟩ ∧ HRel ρ' h' w' w0 := by
  obtain ⟨h', a1, a2, a3, a4, a5⟩ := bump_ex hb hm hfl
  obtain ⟨ρ', b⟩ := a5 ρ w w' w0 L0 o R hL hw hs hz ho ht hn
  exact ⟨h', ρ', a1, a2, a3, a4, b⟩
/-- a pinned map is a map again -/
theorem HRel.unpin {ρ : Emb} {h : H} {w w0 : World} (R : HRel ρ h w w0) {id : B} {blk : Blk} (hb : h.heap.get id = some blk) (hm : blk.min = blk.cur + 9) (hfl : B.val h.floor ≤ B.val id) {L0 : Loc} (hL : ρ id 0 = some L0) {es : Array MapEntry} {clock : Nat}
    (hn : w.heap[L0.b]? = some (.map es clock)) {ps : List (V × V)} (hp : RdP blk.cells blk.el ps) (m : MapP ρ ps es clock) :
    ∃ h', KeepF h h' ∧ Stay (fun i => i = id) h h' ∧ h'.next = h.next ∧ h'.heap.get id = some ⟨blk.cur, blk.cur + 7, blk.size, blk.cells, blk.el, blk.fr⟩ ∧ HRel ρ h' w w0 := by
  obtain ⟨next, floor, heap⟩ := h
  obtain ⟨cur, min, size, cells, el, fr⟩ := blk
  obtain ⟨hp', h4, h5, h6⟩ := setK_ok id (⟨cur, cur + 7, size, cells, el, fr⟩ : Blk) heap
  have hb' : heap.get id = some ⟨cur, min, size, cells, el, fr⟩ := hb
  refine ⟨⟨next, floor, hp'⟩, ⟨rfl, fun hf i hi => h6 i fun e => by rw [e] at hi; exact absurd hfl (Nat.not_le.2 hi)⟩, ⟨rfl, Nat.le_refl _, fun i _ hi => h6 i hi⟩, rfl, h5, ?_⟩
  refine ⟨fun i g M hM => ?_, R.ids, R.sep, R.flo, R.old, R.up, R.tp, R.os, R.out, R.siz, fun i M bl hM hbl kc hmm => ?_, fun i g M bl q hM hbl hg hmm hq => ?_⟩
  · obtain ⟨bl, a1, a2, a3, a4, a5, a6, a7⟩ := R.loc _ _ _ hM
    by_cases hi : i = id
    · subst hi
      have : heap.get i = some bl := a1
      rw [hb'] at this
      have := Option.some.inj this
      subst this
      have a2' : g ≤ cur := a2
      exact ⟨_, h5, a2, a3, a4, fun _ => a5 (.inr (by have hm : min = cur + 9 := hm; show cur < min; omega)), a6, fun hmm => by have hmm : cur + 7 ≤ g := hmm; omega⟩
    · exact ⟨bl, (h6 i hi).trans a1, a2, a3, a4, a5, a6, a7⟩
  · by_cases hi : i = id
    · subst hi
      have hb2 : hp'.get i = some bl := hbl
      rw [h5] at hb2
      have hb3 := Option.some.inj hb2
      subst hb3
      have : M = L0 := by rw [hM] at hL; exact Option.some.inj hL
      subst this
      cases kc with
      | true => exact absurd hmm (by simp [kdN])
      | false => exact ⟨_, hn, es, clock, rfl, ps, hp, m⟩
    · exact R.mp i M bl hM ((h6 i hi).symm.trans hbl) kc hmm
  · by_cases hi : i = id
    · subst hi
      have hb2 : hp'.get i = some bl := hbl
      rw [h5] at hb2
      have hb3 := Option.some.inj hb2
      subst hb3
      have hmm : cur + 7 = cur + 9 := hmm
      omega
    · exact R.ito i g M bl q hM ((h6 i hi).symm.trans hbl) hg hmm hq
/-- a new block that no code turns -/
theorem pin_ex (h : H) : ∃ h', KeepF h h' ∧ Stay nowhere h h' ∧ B.val h'.next = B.val h.next + 1 ∧ h'.heap.get h.next = some ⟨0, 9, 0, .o, 0, 0⟩ ∧
    ∀ (ρ : Emb) (w w0 : World) (o : ItO), HRel ρ h w w0 → ∃ ρ', Ext h.floor ρ ρ' ∧ ρ' h.next 0 = some ⟨w.heap.size, 0, 0, 0, some o⟩ ∧ HRel ρ' h' (w.alloc (objOf o)) w0 := by
  obtain ⟨next, floor, heap⟩ := h
  obtain ⟨hp, h4, h5, h6⟩ := setK_ok next (⟨0, 9, 0, .o, 0, 0⟩ : Blk) heap
  obtain ⟨nx, h7, h8⟩ := incK_ok next
  refine ⟨⟨nx, floor, hp⟩, ⟨rfl, fun hf id hid => h6 id (fun e => by rw [e] at hid; exact absurd hf (Nat.not_le.2 hid))⟩, ⟨rfl, by show B.val next ≤ B.val nx; omega, fun i hi _ => h6 i fun e => by rw [e] at hi; exact absurd hi (Nat.lt_irrefl _)⟩, h8, h5, fun ρ w w0 o R => ?_⟩
  have hnone : ρ next 0 = none := by
    cases hr : ρ next 0 with
    | none => rfl
    | some L => have := R.ids _ _ _ hr; exact absurd this (Nat.lt_irrefl _)
  have hne : ∀ id g L, ρ id g = some L → ¬ (id = next) := fun id g L hr he => by
    have := R.ids _ _ _ hr; rw [he] at this; exact absurd this (Nat.lt_irrefl _)
  have hle := Emb.put_le (⟨w.heap.size, 0, 0, 0, some o⟩ : Loc) hnone
  have hcase : ∀ {id g L}, ρ.put next 0 ⟨w.heap.size, 0, 0, 0, some o⟩ id g = some L → (id = next ∧ g = 0 ∧ L = ⟨w.heap.size, 0, 0, 0, some o⟩) ∨ ρ id g = some L := by
    intro id g L hL
    by_cases e : id = next ∧ g = 0
    · left; obtain ⟨rfl, rfl⟩ := e; rw [Emb.put_same] at hL; exact ⟨rfl, rfl, (Option.some.inj hL).symm⟩
    · right; rwa [Emb.put_other _ _ _ _ e] at hL
  refine ⟨ρ.put next 0 ⟨w.heap.size, 0, 0, 0, some o⟩, Ext.put hnone R.flo, Emb.put_same _ _ _ _, ?_⟩
  refine ⟨fun id g L hL => ?_, fun id g L hL => ?_, fun id g L id' g' L' hL hL' hb => ?_, ?_, fun b hb => ?_, fun id g L hL hf => ?_, R.tp, R.os, R.out, by rw [alloc_size]; exact Nat.le_succ_of_le R.siz, fun id L blk hL hblk kc hm => ?_, fun id g L blk q hL hblk hg hm hq => ?_⟩
  · rcases hcase hL with ⟨rfl, rfl, rfl⟩ | hL
    · exact ⟨_, h5, Nat.le_refl _, by rw [alloc_size]; exact Nat.lt_succ_self _, Nat.le_refl _, fun _ => Nat.le_refl _, fun _ => rfl, fun hm => by have hm : 9 ≤ 0 := hm; omega⟩
    · obtain ⟨blk, a1, a2, a3, a4, a5, a6, a7⟩ := R.loc _ _ _ hL
      refine ⟨blk, (h6 id (hne _ _ _ hL)).trans a1, a2, by rw [alloc_size]; omega, a4, a5, a6, fun hm => ?_⟩
      obtain ⟨c', el', b1, b2, b3, b4⟩ := a7 hm
      refine ⟨c', el', b1.congr (alloc_get_old _ _ a3), b2, b3, fun i i1 i2 => ?_⟩
      obtain ⟨v, x, d1, d2, d3⟩ := b4 i i1 i2
      exact ⟨v, x, d1, d2, VRel.up hle _ _ d3⟩
  · show B.val id < B.val nx
    rcases hcase hL with ⟨rfl, rfl, rfl⟩ | hL
    · rw [h8]; exact Nat.lt_succ_self _
    · have : B.val id < B.val next := R.ids _ _ _ hL
      rw [h8]; omega
  · rcases hcase hL with ⟨i1, i2, i3⟩ | hM <;> rcases hcase hL' with ⟨j1, j2, j3⟩ | hM'
    · exact ⟨i1.trans j1.symm, by rw [i3, j3]⟩
    · obtain ⟨_, _, _, a3, _⟩ := R.loc _ _ _ hM'
      rw [← hb, i3] at a3; exact absurd a3 (Nat.lt_irrefl _)
    · obtain ⟨_, _, _, a3, _⟩ := R.loc _ _ _ hM
      rw [hb, j3] at a3; exact absurd a3 (Nat.lt_irrefl _)
    · exact R.sep _ _ _ _ _ _ hM hM' hb
  · show B.val floor ≤ B.val nx
    have : B.val floor ≤ B.val next := R.flo
    rw [h8]; omega
  · rw [alloc_get_old _ _ (Nat.lt_of_lt_of_le hb R.siz)]
    exact R.old b hb
  · rcases hcase hL with ⟨rfl, rfl, rfl⟩ | hL
    · exact R.siz
    · exact R.up _ _ _ hL hf
  · rcases hcase hL with ⟨rfl, _, rfl⟩ | hL
    · have hb2 : hp.get id = some blk := hblk
      rw [h5] at hb2
      have hb3 := Option.some.inj hb2
      subst hb3
      have hm : 9 = 0 + kdN kc := hm
      exact absurd hm (by cases kc <;> decide)
    · obtain ⟨_, _, _, a3, _⟩ := R.loc _ _ _ hL
      obtain ⟨o1, q1, q2⟩ := R.mp id L blk hL ((h6 id (hne _ _ _ hL)).symm.trans hblk) kc hm
      exact ⟨o1, (alloc_get_old _ _ a3).trans q1, q2.up hle⟩
  · rcases hcase hL with ⟨rfl, _, rfl⟩ | hL
    · cases hq; exact alloc_get_new _ _
    · obtain ⟨_, _, _, a3, _⟩ := R.loc _ _ _ hL
      exact (alloc_get_old _ _ a3).trans (R.ito id g L blk q hL ((h6 id (hne _ _ _ hL)).symm.trans hblk) hg hm hq)
theorem HRel.newOb {ρ : Emb} {h : H} {w w0 : World} (R : HRel ρ h w w0) (o : ItO) :
    ∃ h' ρ', KeepF h h' ∧ Stay nowhere h h' ∧ B.val h'.next = B.val h.next + 1 ∧ h'.heap.get h.next = some ⟨0, 9, 0, .o, 0, 0⟩ ∧ Ext h.floor ρ ρ' ∧ ρ' h.next 0 = some ⟨w.heap.size, 0, 0, 0, some o⟩ ∧ HRel ρ' h' (w.alloc (objOf o)) w0 := by
  obtain ⟨h', a1, a2, a3, a4, a5⟩ := pin_ex h
  obtain ⟨ρ', b⟩ := a5 ρ w w0 o R
  exact ⟨h', ρ', a1, a2, a3, a4, b⟩
/-- a new iterator -/
theorem HRel.newIt {ρ : Emb} {h : H} {w w0 : World} (R : HRel ρ h w w0) (d : Nat × Nat × Array Nat × Nat) :
    ∃ h' ρ', KeepF h h' ∧ Stay nowhere h h' ∧ B.val h'.next = B.val h.next + 1 ∧ h'.heap.get h.next = some ⟨0, 9, 0, .o, 0, 0⟩ ∧ Ext h.floor ρ ρ' ∧ ρ' h.next 0 = some ⟨w.heap.size, 0, 0, 0, some (.inl d)⟩ ∧ HRel ρ' h' (w.alloc (objOf (.inl d))) w0 := R.newOb (.inl d)
end Go.Ev

set_option linter.all false
namespace Go.Ev
open Go
/-- what a range over a map is made of, its body aside -/
structure RgP where
  cpre : List CO
  m : Operand
  it : Nat
  cX : List CO
  more : Operand
  out : Nat
  nxt : Nat
  nx : Nat
  pr : Nat
  crest : List CO
/-- a region with a call of a function whose outcome hangs on an order: what is ahead of it, it, what is behind it -/
structure CaP where
  pre : List CO
  f : Nat
  args : List O
  d : Nat
  rest : List CO
inductive Sh where
  | cc (c : CC)
  | seq (a b : Sh)
  | block (id : Nat) (a : Sh)
  | cond (o : O) (a b : Sh)
  | rng (r : RgP) (cb : Sh)
  | loop (a : Sh)
  | call (c : CaP)
def rgCode : Code → Option (Array Oper × Array Oper × Array Oper × Operand × Nat × Nat × Nat × Code)
  | .seq (.region _ o0 false) (.block out (.loop (.seq (.region _ o1 false) (.seq (.cond more .skip (.exit out2)) (.block nxt (.seq (.region _ o2 false) body)))))) => some (o0, o1, o2, more, out, out2, nxt, body)
  | _ => none
theorem rgCode_ok {c : Code} {o0 o1 o2 : Array Oper} {more : Operand} {out out2 nxt : Nat} {body : Code} (h : rgCode c = some (o0, o1, o2, more, out, out2, nxt, body)) :
    ∃ id0 id1 id2, c = .seq (.region id0 o0 false) (.block out (.loop (.seq (.region id1 o1 false) (.seq (.cond more .skip (.exit out2)) (.block nxt (.seq (.region id2 o2 false) body)))))) := by
  unfold rgCode at h
  split at h
  · cases h; exact ⟨_, _, _, rfl⟩
  · cases h
def splitLast : List Oper → Option (List Oper × Oper)
  | [] => none
  | o :: l => match splitLast l with
    | none => some ([], o)
    | some (p, q) => some (o :: p, q)
theorem splitLast_none : ∀ {l : List Oper}, splitLast l = none → l = []
  | [], _ => rfl
  | o :: l, h => by
    unfold splitLast at h
    split at h <;> cases h
theorem splitLast_ok : ∀ {l p : List Oper} {q : Oper}, splitLast l = some (p, q) → l = p ++ [q]
  | [], _, _, h => by cases h
  | o :: l, p, q, h => by
    unfold splitLast at h
    split at h
    · rename_i e; cases h; rw [splitLast_none e]; rfl
    · rename_i p' q' e; cases h; rw [splitLast_ok e]; rfl
def headO : List Oper → Option (Oper × List Oper)
  | [] => none
  | o :: l => some (o, l)
theorem headO_ok {l r : List Oper} {o : Oper} (h : headO l = some (o, r)) : l = o :: r := by
  cases l with
  | nil => cases h
  | cons a b => cases h; rfl
def rgHead (o : Oper) : Option (TypeId × Operand × Nat) := match o.op, o.dst, o.guard with
  | .range T m, some it, none => some (T, m, it)
  | _, _, _ => none
theorem rgHead_ok {o : Oper} {T : TypeId} {m : Operand} {it : Nat} (h : rgHead o = some (T, m, it)) : o.op = .range T m ∧ o.dst = some it ∧ o.guard = none := by
  unfold rgHead at h
  split at h
  · rename_i e1 e2 e3; cases h; exact ⟨e1, e2, e3⟩
  · cases h
def rgNext (o : Oper) : Option (Nat × Nat) := match o.op, o.dst, o.guard with
  | .next (.tmp it) false, some nx, none => some (it, nx)
  | _, _, _ => none
theorem rgNext_ok {o : Oper} {it nx : Nat} (h : rgNext o = some (it, nx)) : o.op = .next (.tmp it) false ∧ o.dst = some nx ∧ o.guard = none := by
  unfold rgNext at h
  split at h
  · rename_i e1 e2 e3; cases h; exact ⟨e1, e2, e3⟩
  · cases h
def rgEntry (o : Oper) : Option (Nat × Nat) := match o.op, o.dst, o.guard with
  | .entry (.tmp it), some pr, none => some (it, pr)
  | _, _, _ => none
theorem rgEntry_ok {o : Oper} {it pr : Nat} (h : rgEntry o = some (it, pr)) : o.op = .entry (.tmp it) ∧ o.dst = some pr ∧ o.guard = none := by
  unfold rgEntry at h
  split at h
  · rename_i e1 e2 e3; cases h; exact ⟨e1, e2, e3⟩
  · cases h
def rgMap (P : Program) (T : TypeId) : Bool := match P.underlying T with
  | some (.map _ _) => true
  | _ => false
theorem rgMap_ok {P : Program} {T : TypeId} (h : rgMap P T = true) : ∃ kt et, P.underlying T = some (.map kt et) := by
  unfold rgMap at h
  split at h
  · rename_i a b e; exact ⟨a, b, e⟩
  · cases h
def fits (nt d : Nat) : Bool := Nat.ble (d + 1) nt && Nat.ble (d + 1) 512
theorem fits_ok {nt d : Nat} (h : fits nt d = true) : d < nt ∧ d < 512 := by
  unfold fits at h
  rw [Bool.and_eq_true, Nat.ble_eq, Nat.ble_eq] at h
  exact h
noncomputable def rgTry (P : Program) (nt : Nat) (c : Code) : Option (RgP × Code) :=
  (rgCode c).bind fun q => match q with
  | (o0, o1, o2, more, out, out2, nxt, body) => (splitLast o0.toList).bind fun q => match q with
  | (pre, oR) => (rgHead oR).bind fun q => match q with
  | (T, m, it) => (headO o1.toList).bind fun q => match q with
  | (oN, restN) => (rgNext oN).bind fun q => match q with
  | (it1, nx) => (headO o2.toList).bind fun q => match q with
  | (oE, restE) => (rgEntry oE).bind fun q => match q with
  | (it2, pr) => match rgMap P T && Nat.beq out2 out && Nat.beq it1 it && Nat.beq it2 it && fits nt it && fits nt nx && fits nt pr with
    | true => some (⟨compOpsWith (fun _ => true) P nt o0.toList (compOp P) 0 pre, m, it, compOpsWith (fun _ => true) P nt o1.toList (compOp P) 1 restN, more, out, nxt, nx, pr, compOpsWith (fun _ => true) P nt o2.toList (compOp P) 1 restE⟩, body)
    | false => none
noncomputable def shSeq : Sh → Sh → Sh
  | .cc x, .cc y => .cc (.seq x y)
  | a, b => .seq a b
noncomputable def shBlk (id : Nat) : Sh → Sh
  | .cc x => .cc (.block id x)
  | a => .block id a
noncomputable def shCond (o : O) : Sh → Sh → Sh
  | .cc x, .cc y => .cc (.cond o x y)
  | a, b => .cond o a b
noncomputable def shLoop : Sh → Sh
  | .cc x => .cc (.loop x)
  | a => .loop a
def caHead (ns : List Nat) (o : Oper) : Option (Nat × Array Operand × Nat) := match o.op, o.dst, o.guard with
  | .call ⟨.value (.func f), args, _⟩, some d, none => match ns.any (Nat.beq f) with
    | true => some (f, args, d)
    | false => none
  | _, _, _ => none
theorem caHead_ok {ns : List Nat} {o : Oper} {f : Nat} {args : Array Operand} {d : Nat} (h : caHead ns o = some (f, args, d)) : (∃ tys, o.op = .call ⟨.value (.func f), args, tys⟩) ∧ o.dst = some d ∧ o.guard = none := by
  unfold caHead at h
  split at h
  · rename_i e1 e2 e3
    split at h
    · cases h; exact ⟨⟨_, e1⟩, e2, e3⟩
    · cases h
  · cases h
def caSplit (ns : List Nat) : List Oper → Option (List Oper × Oper × (Nat × Array Operand × Nat) × List Oper)
  | [] => none
  | o :: l => match caHead ns o with
    | some q => some ([], o, q, l)
    | none => match caSplit ns l with
      | some (p, o', q, r) => some (o :: p, o', q, r)
      | none => none
theorem caSplit_ok {ns : List Nat} : ∀ {l p r : List Oper} {o : Oper} {q : Nat × Array Operand × Nat}, caSplit ns l = some (p, o, q, r) → l = p ++ o :: r ∧ caHead ns o = some q
  | [], _, _, _, _, h => by cases h
  | o :: l, p, r, o', q, h => by
    unfold caSplit at h
    split at h
    · rename_i e; cases h; exact ⟨rfl, e⟩
    · split at h
      · rename_i e; cases h
        obtain ⟨rfl, e2⟩ := caSplit_ok e
        exact ⟨rfl, e2⟩
      · cases h
noncomputable def shReg (P : Program) (ns : List Nat) (nt : Nat) (ops : Array Oper) (draw : Bool) : Sh := match draw with
  | true => .cc (compRegion P nt ops.toList true)
  | false => match caSplit ns ops.toList with
    | none => .cc (compRegion P nt ops.toList false)
    | some (pre, _, (f, args, d), rest) => match fits nt d with
      | true => .call ⟨compOpsWith (fun _ => true) P nt ops.toList (compOp P) 0 pre, f, args.toList.map compO, d, compOpsWith (fun _ => true) P nt ops.toList (compOp P) (pre.length + 1) rest⟩
      | false => .cc (compRegion P nt ops.toList false)
noncomputable def shGo (P : Program) (ns : List Nat) (nt : Nat) (ih : Code → Sh) (c : Code) : Sh := match c with
  | .seq a b => shSeq (ih a) (ih b)
  | .block id a => shBlk id (ih a)
  | .scope a => ih a
  | .cond o a b => shCond (compO o) (ih a) (ih b)
  | .loop a => shLoop (ih a)
  | .region _ ops draw => shReg P ns nt ops draw
  | c => .cc (comp P nt c)
noncomputable def shOf (P : Program) (ns : List Nat) (nt : Nat) : Nat → Code → Sh
  | 0, c => .cc (comp P nt c)
  | n + 1, c => match rgTry P nt c with
    | some (r, body) => .rng r (shOf P ns nt n body)
    | none => shGo P ns nt (shOf P ns nt n) c
theorem shLoop_cc {a : Sh} {x : CC} (h : shLoop a = .cc x) : ∃ y, a = .cc y ∧ x = .loop y := by
  cases a <;> cases h <;> exact ⟨_, rfl, rfl⟩
theorem shLoop_loop {a s : Sh} (h : shLoop a = .loop s) : a = s := by
  cases a <;> cases h <;> rfl
theorem shLoop_or (a : Sh) : (∃ x, shLoop a = .cc x) ∨ ∃ s, shLoop a = .loop s := by
  cases a <;> first | exact .inl ⟨_, rfl⟩ | exact .inr ⟨_, rfl⟩
theorem shReg_or (P : Program) (ns : List Nat) (nt : Nat) (ops : Array Oper) (draw : Bool) : shReg P ns nt ops draw = .cc (compRegion P nt ops.toList draw) ∨ (draw = false ∧ ∃ pre oC rest f args tys d, shReg P ns nt ops draw = .call ⟨compOpsWith (fun _ => true) P nt ops.toList (compOp P) 0 pre, f, args.toList.map compO, d, compOpsWith (fun _ => true) P nt ops.toList (compOp P) (pre.length + 1) rest⟩ ∧
    ops.toList = pre ++ oC :: rest ∧ oC.op = .call ⟨.value (.func f), args, tys⟩ ∧ oC.dst = some d ∧ oC.guard = none ∧ fits nt d = true) := by
  cases draw with
  | true => exact .inl rfl
  | false =>
    unfold shReg
    cases hs : caSplit ns ops.toList with
    | none => exact .inl rfl
    | some q =>
      obtain ⟨pre, oC, ⟨f, args, d⟩, rest⟩ := q
      obtain ⟨e1, e2⟩ := caSplit_ok hs
      obtain ⟨⟨tys, e3⟩, e4, e5⟩ := caHead_ok e2
      simp only
      cases hf : fits nt d with
      | false => exact .inl rfl
      | true => exact .inr ⟨trivial, pre, oC, rest, f, args, tys, d, rfl, e1, e3, e4, e5, hf⟩
theorem shSeq_cc {a b : Sh} {x : CC} (h : shSeq a b = .cc x) : ∃ y z, a = .cc y ∧ b = .cc z ∧ x = .seq y z := by
  cases a <;> cases b <;> cases h <;> exact ⟨_, _, rfl, rfl, rfl⟩
theorem shBlk_cc {id : Nat} {a : Sh} {x : CC} (h : shBlk id a = .cc x) : ∃ y, a = .cc y ∧ x = .block id y := by
  cases a <;> cases h <;> exact ⟨_, rfl, rfl⟩
theorem shCond_cc {o : O} {a b : Sh} {x : CC} (h : shCond o a b = .cc x) : ∃ y z, a = .cc y ∧ b = .cc z ∧ x = .cond o y z := by
  cases a <;> cases b <;> cases h <;> exact ⟨_, _, rfl, rfl, rfl⟩
theorem shSeq_seq {a b s1 s2 : Sh} (h : shSeq a b = .seq s1 s2) : a = s1 ∧ b = s2 := by
  cases a <;> cases b <;> cases h <;> exact ⟨rfl, rfl⟩
theorem shBlk_block {id i : Nat} {a s : Sh} (h : shBlk id a = .block i s) : id = i ∧ a = s := by
  cases a <;> cases h <;> exact ⟨rfl, rfl⟩
theorem shCond_cond {o q : O} {a b s1 s2 : Sh} (h : shCond o a b = .cond q s1 s2) : o = q ∧ a = s1 ∧ b = s2 := by
  cases a <;> cases b <;> cases h <;> exact ⟨rfl, rfl, rfl⟩
theorem shOf_cc {P : Program} {ns : List Nat} {nt : Nat} : ∀ {n : Nat} {c : Code} {x : CC}, shOf P ns nt n c = .cc x → comp P nt c = x := by
  intro n
  induction n with
  | zero => intro c x h; cases h; rfl
  | succ n ih =>
    intro c x h
    unfold shOf at h
    split at h
    · cases h
    · cases c with
      | seq a b =>
        obtain ⟨y, z, e1, e2, rfl⟩ := shSeq_cc h
        show CC.seq _ _ = _
        rw [ih e1, ih e2]
      | block id a =>
        obtain ⟨y, e1, rfl⟩ := shBlk_cc h
        show CC.block _ _ = _
        rw [ih e1]
      | scope a => exact ih (c := a) h
      | cond o a b =>
        obtain ⟨y, z, e1, e2, rfl⟩ := shCond_cc h
        show CC.cond _ _ _ = _
        rw [ih e1, ih e2]
      | loop a =>
        obtain ⟨y, e1, rfl⟩ := shLoop_cc h
        show CC.loop _ = _
        rw [ih e1]
      | region id ops dr =>
        have h : shReg P ns nt ops dr = .cc x := h
        rcases shReg_or P ns nt ops dr with e | ⟨_, _, _, _, _, _, _, _, e, _⟩
        · rw [e] at h; cases h; rfl
        · rw [e] at h; cases h
      | _ => cases h; rfl
theorem CodeN.scope {P : Program} {nt : Nat} {c : Code} {t : F} {h : H} {K : X → F → H → Prop} (a : CodeN P nt c t h K) : CodeN P nt (.scope c) t h K := by
  intro ρ b w w0 Q D A R hQ
  refine wp_scope_straight (a ρ b w w0 _ D A R fun x t1 h1 ρ1 a1 w1 k k1 k2 k3 A1 R1 => ?_)
  have := hQ x t1 h1 ρ1 a1 w1 k k1 k2 k3 A1 R1
  cases x <;> exact this
/-- code of that shape comes to states of which K holds -/
def OkS (P : Program) (nt : Nat) (sh : Sh) (t : F) (h : H) (K : X → F → H → Prop) : Prop := ∀ ns n c, shOf P ns nt n c = sh → CodeN P nt c t h K
section
variable {P : Program} {nt : Nat} {t : F} {h : H} {K : X → F → H → Prop}
theorem OkS.cc {x : CC} (a : Ok P nt x t h K) : OkS P nt (.cc x) t h K := fun _ _ _ e => CodeN.of (shOf_cc e) a
theorem OkS.mono {sh : Sh} {K' : X → F → H → Prop} (a : OkS P nt sh t h K) (hk : ∀ x t h, K x t h → K' x t h) : OkS P nt sh t h K' := fun ns n c e => (a ns n c e).mono hk
def SqS (P : Program) (nt : Nat) (s : Sh) (K : X → F → H → Prop) : X → F → H → Prop
  | .normal, t, h => OkS P nt s t h K
  | x, t, h => K x t h
theorem OkS.seq {s1 s2 : Sh} (a : OkS P nt s1 t h (SqS P nt s2 K)) : OkS P nt (.seq s1 s2) t h K := by
  intro ns n
  induction n with
  | zero => intro c e; cases e
  | succ n ih =>
    intro c e
    unfold shOf at e
    split at e
    · cases e
    · cases c with
      | seq c1 c2 =>
        obtain ⟨e1, e2⟩ := shSeq_seq e
        refine CodeN.seq ((a ns n c1 e1).mono fun x t h k => ?_)
        cases x with
        | normal => exact k ns n c2 e2
        | ret => exact k
        | exit id => exact k
      | block id c1 => have e : shBlk id (shOf P ns nt n c1) = .seq s1 s2 := e; cases hs : shOf P ns nt n c1 <;> rw [hs] at e <;> cases e
      | scope c1 => exact CodeN.scope (ih c1 e)
      | cond o c1 c2 => have e : shCond (compO o) (shOf P ns nt n c1) (shOf P ns nt n c2) = .seq s1 s2 := e; cases hs : shOf P ns nt n c1 <;> cases hs2 : shOf P ns nt n c2 <;> rw [hs, hs2] at e <;> cases e
      | loop c1 => have e : shLoop (shOf P ns nt n c1) = .seq s1 s2 := e; rcases shLoop_or (shOf P ns nt n c1) with ⟨_, h⟩ | ⟨_, h⟩ <;> rw [h] at e <;> cases e
      | region _ ops dr => have e : shReg P ns nt ops dr = .seq s1 s2 := e; rcases shReg_or P ns nt ops dr with h | ⟨_, _, _, _, _, _, _, _, h, _⟩ <;> rw [h] at e <;> cases e
      | _ => cases e
theorem OkS.block {id : Nat} {s : Sh} (a : OkS P nt s t h (Out id K)) : OkS P nt (.block id s) t h K := by
  intro ns n
  induction n with
  | zero => intro c e; cases e
  | succ n ih =>
    intro c e
    unfold shOf at e
    split at e
    · cases e
    · cases c with
      | seq c1 c2 => have e : shSeq (shOf P ns nt n c1) (shOf P ns nt n c2) = .block id s := e; cases hs : shOf P ns nt n c1 <;> cases hs2 : shOf P ns nt n c2 <;> rw [hs, hs2] at e <;> cases e
      | block i c1 =>
        obtain ⟨rfl, e2⟩ := shBlk_block e
        exact CodeN.block (a ns n c1 e2)
      | scope c1 => exact CodeN.scope (ih c1 e)
      | cond o c1 c2 => have e : shCond (compO o) (shOf P ns nt n c1) (shOf P ns nt n c2) = .block id s := e; cases hs : shOf P ns nt n c1 <;> cases hs2 : shOf P ns nt n c2 <;> rw [hs, hs2] at e <;> cases e
      | loop c1 => have e : shLoop (shOf P ns nt n c1) = .block id s := e; rcases shLoop_or (shOf P ns nt n c1) with ⟨_, h⟩ | ⟨_, h⟩ <;> rw [h] at e <;> cases e
      | region _ ops dr => have e : shReg P ns nt ops dr = .block id s := e; rcases shReg_or P ns nt ops dr with h | ⟨_, _, _, _, _, _, _, _, h, _⟩ <;> rw [h] at e <;> cases e
      | _ => cases e
theorem OkS.cond {o : O} {s1 s2 : Sh} {b : Bool} (hb : oV o t = .b b) (a : b = true → OkS P nt s1 t h K) (a' : b = false → OkS P nt s2 t h K) : OkS P nt (.cond o s1 s2) t h K := by
  intro ns n
  induction n with
  | zero => intro c e; cases e
  | succ n ih =>
    intro c e
    unfold shOf at e
    split at e
    · cases e
    · cases c with
      | seq c1 c2 => have e : shSeq (shOf P ns nt n c1) (shOf P ns nt n c2) = .cond o s1 s2 := e; cases hs : shOf P ns nt n c1 <;> cases hs2 : shOf P ns nt n c2 <;> rw [hs, hs2] at e <;> cases e
      | block i c1 => have e : shBlk i (shOf P ns nt n c1) = .cond o s1 s2 := e; cases hs : shOf P ns nt n c1 <;> rw [hs] at e <;> cases e
      | scope c1 => exact CodeN.scope (ih c1 e)
      | cond q c1 c2 =>
        obtain ⟨rfl, e1, e2⟩ := shCond_cond e
        intro ρ act w w0 Q D A R hQ
        have hev : act.eval q = .bool b := by have := opnd_rel A q; rw [hb] at this; exact this
        cases b with
        | true => exact wp_cond_true hev (a rfl ns n c1 e1 ρ act w w0 Q D A R hQ)
        | false => exact wp_cond_false hev (a' rfl ns n c2 e2 ρ act w w0 Q D A R hQ)
      | loop c1 => have e : shLoop (shOf P ns nt n c1) = .cond o s1 s2 := e; rcases shLoop_or (shOf P ns nt n c1) with ⟨_, h⟩ | ⟨_, h⟩ <;> rw [h] at e <;> cases e
      | region _ ops dr => have e : shReg P ns nt ops dr = .cond o s1 s2 := e; rcases shReg_or P ns nt ops dr with h | ⟨_, _, _, _, _, _, _, _, h, _⟩ <;> rw [h] at e <;> cases e
      | _ => cases e
theorem OkS.call {c : CaP} (a : ∀ ops pre oC rest args tys, ops.toList = pre ++ oC :: rest → oC.op = .call ⟨.value (.func c.f), args, tys⟩ → oC.dst = some c.d → oC.guard = none → fits nt c.d = true → c.args = args.toList.map compO → c.pre = compOpsWith (fun _ => true) P nt ops.toList (compOp P) 0 pre →
    c.rest = compOpsWith (fun _ => true) P nt ops.toList (compOp P) (pre.length + 1) rest → ∀ id, CodeN P nt (.region id ops false) t h K) : OkS P nt (.call c) t h K := by
  intro ns n
  induction n with
  | zero => intro c e; cases e
  | succ n ih =>
    intro cd e
    unfold shOf at e
    split at e
    · cases e
    · cases cd with
      | seq c1 c2 => have e : shSeq (shOf P ns nt n c1) (shOf P ns nt n c2) = .call c := e; cases hs : shOf P ns nt n c1 <;> cases hs2 : shOf P ns nt n c2 <;> rw [hs, hs2] at e <;> cases e
      | block i c1 => have e : shBlk i (shOf P ns nt n c1) = .call c := e; cases hs : shOf P ns nt n c1 <;> rw [hs] at e <;> cases e
      | scope c1 => exact CodeN.scope (ih c1 e)
      | cond o c1 c2 => have e : shCond (compO o) (shOf P ns nt n c1) (shOf P ns nt n c2) = .call c := e; cases hs : shOf P ns nt n c1 <;> cases hs2 : shOf P ns nt n c2 <;> rw [hs, hs2] at e <;> cases e
      | loop c1 => have e : shLoop (shOf P ns nt n c1) = .call c := e; rcases shLoop_or (shOf P ns nt n c1) with ⟨_, h⟩ | ⟨_, h⟩ <;> rw [h] at e <;> cases e
      | region id ops dr =>
        have e : shReg P ns nt ops dr = .call c := e
        rcases shReg_or P ns nt ops dr with h | ⟨rfl, pre, oC, rest, f, args, tys, d, h, e1, e2, e3, e4, e5⟩
        · rw [h] at e; cases e
        · rw [h] at e; cases e
          exact a ops pre oC rest args tys e1 e2 e3 e4 e5 rfl rfl rfl id
      | _ => cases e
theorem CodeN.loop {c : Code} (Inv : Nat → F → H → Prop) (round : ∀ m t h, Inv m t h → CodeN P nt c t h (Then (fun t' h' => ∃ m', m' < m ∧ Inv m' t' h') K)) : ∀ m t h, Inv m t h → CodeN P nt (.loop c) t h K := by
  have main : ∀ n m t h, m ≤ n → Inv m t h → ∀ ρ a w w0 (Q : Exit → Act → World → Prop), Dn ρ h w0 → ARel ρ nt t a → HRel ρ h w w0 →
      (∀ x t' h' ρ' a' w', K x t' h' → KeepF h h' → B.val h.next ≤ B.val h'.next → Ext h.floor ρ ρ' → ARel ρ' nt t' a' → HRel ρ' h' w' w0 → Q (xOf x) a' w') → LoopArr P c Q a w := by
    intro n
    induction n with
    | zero =>
      intro m t h hm hI ρ a w w0 Q D A R hQ
      refine loopArr_of (round m t h hI ρ a w w0 _ D A R fun x t1 h1 ρ1 a1 w1 k k1 k2 k3 A1 R1 => ?_)
      cases x with
      | normal => obtain ⟨m', hm', _⟩ := k; omega
      | exit id => exact hQ _ _ _ _ _ _ k k1 k2 k3 A1 R1
      | ret => exact hQ _ _ _ _ _ _ k k1 k2 k3 A1 R1
    | succ n ih =>
      intro m t h hm hI ρ a w w0 Q D A R hQ
      refine loopArr_of (round m t h hI ρ a w w0 _ D A R fun x t1 h1 ρ1 a1 w1 k k1 k2 k3 A1 R1 => ?_)
      cases x with
      | normal =>
        obtain ⟨m', hm', hI'⟩ := k
        exact ih m' t1 h1 (by omega) hI' ρ1 a1 w1 w0 Q (D.up k1.1 k3) A1 R1 fun x t2 h2 ρ2 a2 w2 kk l1 l2 l3 A2 R2 => hQ x t2 h2 ρ2 a2 w2 kk (KeepF.trans k1 k2 l1) (Nat.le_trans k2 l2) (Ext.trans k3 (by rw [← k1.1]; exact l3)) A2 R2
      | exit id => exact hQ _ _ _ _ _ _ k k1 k2 k3 A1 R1
      | ret => exact hQ _ _ _ _ _ _ k k1 k2 k3 A1 R1
  intro m t h hI ρ a w w0 Q D A R hQ
  exact wp_loop_of (main m m t h (Nat.le_refl _) hI ρ a w w0 Q D A R hQ)
theorem OkS.loop {s : Sh} (Inv : Nat → F → H → Prop) (m : Nat) (i : Inv m t h) (round : ∀ m t h, Inv m t h → OkS P nt s t h (Then (fun t' h' => ∃ m', m' < m ∧ Inv m' t' h') K)) : OkS P nt (.loop s) t h K := by
  intro ns n
  induction n with
  | zero => intro c e; cases e
  | succ n ih =>
    intro cd e
    unfold shOf at e
    split at e
    · cases e
    · cases cd with
      | seq c1 c2 => have e : shSeq (shOf P ns nt n c1) (shOf P ns nt n c2) = .loop s := e; cases hs : shOf P ns nt n c1 <;> cases hs2 : shOf P ns nt n c2 <;> rw [hs, hs2] at e <;> cases e
      | block i c1 => have e : shBlk i (shOf P ns nt n c1) = .loop s := e; cases hs : shOf P ns nt n c1 <;> rw [hs] at e <;> cases e
      | scope c1 => exact CodeN.scope (ih c1 e)
      | cond o c1 c2 => have e : shCond (compO o) (shOf P ns nt n c1) (shOf P ns nt n c2) = .loop s := e; cases hs : shOf P ns nt n c1 <;> cases hs2 : shOf P ns nt n c2 <;> rw [hs, hs2] at e <;> cases e
      | loop c1 => exact CodeN.loop Inv (fun m t h hi => round m t h hi ns n c1 (shLoop_loop e)) m t h i
      | region _ ops dr => have e : shReg P ns nt ops dr = .loop s := e; rcases shReg_or P ns nt ops dr with h | ⟨_, _, _, _, _, _, _, _, h, _⟩ <;> rw [h] at e <;> cases e
      | _ => cases e
end
/-- a function: how many slots, its shape, its results -/
structure SF where
  nt : Nat
  sh : Sh
  rs : List Rs
noncomputable def shFnN (P : Program) (ns : List Nat) (f : Nat) : SF := match P.funcs.toList[f]? with
  | none => ⟨0, .cc .bad, []⟩
  | some fn => match fn.body, fn.name == "runtime.NumGoroutine" with
    | some b, false => ⟨fn.ntmps, shOf P ns fn.ntmps 60 b, fn.results.toList.map (rsOf P)⟩
    | _, _ => ⟨0, .cc .bad, []⟩
theorem fn_s {P : Program} {ns : List Nat} {f nt : Nat} {sh : Sh} {rs : List Rs} {vs : List V} {h : H} {K : V → H → Prop} (hf : shFnN P ns f = ⟨nt, sh, rs⟩) (hnt : 0 < nt) (hl1 : vs.length ≤ nt) (hl2 : vs.length ≤ 512) (ok : OkS P nt sh (slotsF vs 0 F.zero) h (FnK rs K)) : FnN P f vs h K := by
  unfold shFnN at hf
  split at hf
  · cases hf; exact absurd hnt (Nat.lt_irrefl _)
  · rename_i fn hfn
    split at hf
    · rename_i b hb hn
      cases hf
      exact fn_n hfn hb hn rfl hl1 hl2 (ok ns 60 b rfl)
    · cases hf; exact absurd hnt (Nat.lt_irrefl _)
end Go.Ev

set_option linter.all false
namespace Go.Ev
open Go Go.MapKept Go.ChangeMaps
/-- what the compiled parts of a range over a map are: 'for k, v := range m' -/
structure RngShape (P : Program) (nt : Nat) (c : Code) (cpre : List CO) (m : Operand) (it : Nat) (cX : List CO) (more : Operand) (out nxt : Nat) (nx pr : Nat) (crest : List CO) (cb : Sh) : Prop where
  ok : ∃ id0 ops0 id1 ops1 id2 ops2 body, c = .seq (.region id0 ops0 false) (.block out (.loop (.seq (.region id1 ops1 false) (.seq (.cond more .skip (.exit out)) (.block nxt (.seq (.region id2 ops2 false) body)))))) ∧
    (∃ pre oR T0 kt et, ops0.toList = pre ++ [oR] ∧ oR.op = .range T0 m ∧ oR.dst = some it ∧ oR.guard = none ∧ P.underlying T0 = some (.map kt et) ∧ cpre = compOpsWith (fun _ => true) P nt ops0.toList (compOp P) 0 pre) ∧
    (∃ oN restN, ops1.toList = oN :: restN ∧ oN.op = .next (.tmp it) false ∧ oN.dst = some nx ∧ oN.guard = none ∧ cX = compOpsWith (fun _ => true) P nt ops1.toList (compOp P) 1 restN) ∧
    (∃ oE restE, ops2.toList = oE :: restE ∧ oE.op = .entry (.tmp it) ∧ oE.dst = some pr ∧ oE.guard = none ∧ crest = compOpsWith (fun _ => true) P nt ops2.toList (compOp P) 1 restE) ∧
    ∃ ns nb, shOf P ns nt nb body = cb
  itl : it < nt ∧ it < 512
  nxl : nx < nt ∧ nx < 512
  prl : pr < nt ∧ pr < 512
def VisOk (E vis : En) : Prop := (∀ p ∈ vis, p ∈ E) ∧ (keysE vis).Nodup
/-- which object a map is: a pinned one, or one that was there when w0 was -/
def ExM (pin : Bool) (ρ : Emb) (h : H) (w0 : World) (idm : B) (E : En) (LM0 : Loc) (es : Array MapEntry) (clock : Nat) : Prop := match pin with
  | true => ∃ bM gM LM, h.heap.get idm = some bM ∧ bM.cur = gM ∧ bM.min = gM + 9 ∧ ρ idm gM = some LM ∧ LM.b = LM0.b ∧ LM.it = some (.inr (es, clock)) ∧ RdP bM.cells bM.el (toP E) ∧ B.val h.floor ≤ B.val idm
  | false => LM0.b < w0.heap.size ∧ w0.heap[LM0.b]? = some (.map es clock)
theorem ExM.get {pin : Bool} {ρ : Emb} {h : H} {w w0 : World} {idm : B} {E : En} {LM0 : Loc} {es : Array MapEntry} {clock : Nat} (x : ExM pin ρ h w0 idm E LM0 es clock) (R : HRel ρ h w w0) : w.heap[LM0.b]? = some (.map es clock) := by
  cases pin with
  | true =>
    obtain ⟨bM, gM, LM, x1, x2, x3, x4, x5, x6, _⟩ := x
    have hM := R.ito idm gM LM bM _ x4 x1 x2 (by omega) x6
    rw [← x5]; exact hM
  | false => exact (R.old _ x.1).trans x.2
theorem ExM.up {pin : Bool} {ρ ρ' : Emb} {h h' : H} {w0 : World} {idm : B} {E : En} {LM0 : Loc} {es : Array MapEntry} {clock : Nat} (x : ExM pin ρ h w0 idm E LM0 es clock) (hle : ρ.le ρ') (hf : h'.floor = h.floor) (hg : h'.heap.get idm = h.heap.get idm) : ExM pin ρ' h' w0 idm E LM0 es clock := by
  cases pin with
  | true =>
    obtain ⟨bM, gM, LM, x1, x2, x3, x4, x5, x6, x7, x8⟩ := x
    exact ⟨bM, gM, LM, hg.trans x1, x2, x3, hle _ _ _ x4, x5, x6, x7, by rw [hf]; exact x8⟩
  | false => exact x
/-- what is known while a map is ranged over -/
structure Rng (pin : Bool) (ρ : Emb) (h : H) (w0 : World) (idm idI : B) (E vis : En) : Prop where
  ok : ∃ bI gI LI LI0 LM0 es clock seen visE, h.heap.get idI = some bI ∧ bI.cur = gI ∧ bI.min = gI + 9 ∧ ρ idI gI = some LI ∧ ρ idI 0 = some LI0 ∧ LI.b = LI0.b ∧ LI0.s = 0 ∧ LI.it = some (.inl (LM0.b, clock, seen, clock)) ∧
    ρ idm 0 = some LM0 ∧ ExM pin ρ h w0 idm E LM0 es clock ∧ MapP ρ (toP E) es clock ∧
    F2 ρ (toP vis) visE ∧ seen.toList = visE.map (·.born) ∧ (∀ e ∈ visE, e ∈ es.toList)
  ne : idI ≠ idm
  floI : B.val h.floor ≤ B.val idI
  nod : (keysE E).Nodup
  vis : VisOk E vis
theorem Rng.next {pin : Bool} {ρ ρ' : Emb} {h h' : H} {w0 : World} {idm idI : B} {E vis : En} (r : Rng pin ρ h w0 idm idI E vis) (hle : ρ.le ρ') (hf : h'.floor = h.floor) (h1 : h'.heap.get idI = h.heap.get idI) (h2 : h'.heap.get idm = h.heap.get idm) : Rng pin ρ' h' w0 idm idI E vis := by
  obtain ⟨bI, gI, LI, LI0, LM0, es, clock, seen, visE, a1, a2, a3, a4, a5, a6, a7, a8, b4, b5, b8, b9, c1, c2⟩ := r.ok
  exact ⟨⟨bI, gI, LI, LI0, LM0, es, clock, seen, visE, h1.trans a1, a2, a3, hle _ _ _ a4, hle _ _ _ a5, a6, a7, a8, hle _ _ _ b4, b5.up hle hf h2, b8.up hle, b9.up hle, c1, c2⟩, r.ne, by rw [hf]; exact r.floI, r.nod, r.vis⟩
theorem getE_in {E : En} {k : List UInt8} {v : V} (h : getE E k = some v) : (k, v) ∈ E := by
  induction E with
  | nil => cases h
  | cons p r ih =>
    obtain ⟨a, u⟩ := p
    have h : (if k = a then some u else getE r k) = some v := h
    by_cases e : k = a
    · rw [if_pos e] at h; cases h; rw [e]; exact List.mem_cons_self ..
    · rw [if_neg e] at h; exact List.mem_cons_of_mem _ (ih h)
theorem getE_of {E : En} (hn : (keysE E).Nodup) {k : List UInt8} {v : V} (h : (k, v) ∈ E) : getE E k = some v := by
  induction E with
  | nil => cases h
  | cons p r ih =>
    obtain ⟨a, u⟩ := p
    have hn' := List.nodup_cons.1 (show (a :: keysE r).Nodup from hn)
    show (if k = a then some u else getE r k) = some v
    rcases List.mem_cons.1 h with e | h
    · cases e; rw [if_pos rfl]
    · rw [if_neg fun e => hn'.1 (by rw [← e]; exact List.mem_map.2 ⟨_, h, rfl⟩)]
      exact ih hn'.2 h
theorem toP_mem {E : En} {k : List UInt8} {v : V} : (sv k, v) ∈ toP E ↔ (k, v) ∈ E := by
  unfold toP
  rw [List.mem_map]
  constructor
  · rintro ⟨⟨a, u⟩, h1, h2⟩
    have h3 : sv a = sv k := congrArg Prod.fst h2
    have h4 : u = v := congrArg Prod.snd h2
    have : a = k := by
      have e : eqS a.length (pk a) k.length (pk k) = true := by
        unfold sv at h3
        injection h3 with q1 q2
        rw [← q1, ← q2]
        show (Nat.beq _ _ && Nat.beq _ _) = true
        rw [Nat.beq_refl, Nat.beq_refl]; rfl
      rw [eqS_sv] at e
      exact of_decide_eq_true e
    rw [← this, ← h4]; exact h1
  · intro h; exact ⟨(k, v), h, rfl⟩
theorem F2.mem {ρ : Emb} {E : En} {l : List MapEntry} (f : F2 ρ (toP E) l) {e : MapEntry} (h : e ∈ l) : ∃ k v, (k, v) ∈ E ∧ VRel ρ (sv k) e.key ∧ VRel ρ v e.val := by
  obtain ⟨i, hi⟩ := List.mem_iff_getElem?.1 h
  obtain ⟨kv, k1, k2, k3⟩ := f.get hi
  have hm : kv ∈ toP E := List.mem_of_getElem? k1
  unfold toP at hm
  obtain ⟨⟨a, u⟩, m1, m2⟩ := List.mem_map.1 hm
  refine ⟨a, u, m1, ?_, ?_⟩
  · rw [← m2] at k2; exact k2
  · rw [← m2] at k3; exact k3
theorem F2.mem2 {ρ : Emb} {ps : List (V × V)} {l : List MapEntry} (f : F2 ρ ps l) {kv : V × V} (h : kv ∈ ps) : ∃ e ∈ l, VRel ρ kv.1 e.key ∧ VRel ρ kv.2 e.val := by
  induction f with
  | nil => cases h
  | cons a b c ih =>
    rcases List.mem_cons.1 h with rfl | h
    · exact ⟨_, List.mem_cons_self .., a, b⟩
    · obtain ⟨e, e1, e2⟩ := ih h
      exact ⟨e, List.mem_cons_of_mem _ e1, e2⟩
theorem key_det {ρ : Emb} {k k' : List UInt8} {x : Value} (h1 : VRel ρ (sv k) x) (h2 : VRel ρ (sv k') x) : k = k' := by
  obtain ⟨b1, rfl, e1, e2, _⟩ := srel h1
  obtain ⟨b2, e, e3, e4, _⟩ := srel h2
  cases e
  have : eqS k.length (pk k) k'.length (pk k') = true := by
    rw [← e1, ← e2, ← e3, ← e4]
    show (Nat.beq _ _ && Nat.beq _ _) = true
    rw [Nat.beq_refl, Nat.beq_refl]; rfl
  rw [eqS_sv] at this
  exact of_decide_eq_true this
theorem key_det2 {ρ : Emb} {k : List UInt8} {x y : Value} (h1 : VRel ρ (sv k) x) (h2 : VRel ρ (sv k) y) : x = y := by
  have := keyEq_ok (kd := none) (r := true) (keyEq_self k) h1 h2
  exact this.2.2.1 rfl
section
variable {P : Program} {nt : Nat} {c : Code} {cpre : List CO} {m : Operand} {it : Nat} {cX : List CO} {more : Operand} {out nxt : Nat} {nx pr : Nat} {crest : List CO} {cb : Sh}
theorem wanted_none {o : Oper} {f : Nat → Option Bool} (h : o.guard = none) : Region.wanted o f = true := by simp [Region.wanted, h]
theorem tmp_ptr {ρ : Emb} {t : F} {a : Act} {id : B} {L : Loc} (A : ARel ρ nt t a) (hi : it < 512) (hg : get it t = .p id 0 0 0) (hL : ρ id 0 = some L) (h0 : L.s = 0) : a.eval (.tmp it) = .pointer (some ⟨L.b, 0, none⟩) := by
  have := opnd_rel A (.tmp it)
  have e : oV (compO (.tmp it)) t = get it t := by
    show oV (match Nat.ble (Nat.succ it) 512 with | true => O.t (slOf it) | false => .c .u) t = _
    have : Nat.ble (Nat.succ it) 512 = true := by rw [Nat.ble_eq]; exact hi
    rw [this]; rfl
  rw [e, hg] at this
  obtain ⟨M, m1, m2, _⟩ := this
  rw [hL] at m1
  cases m1
  rw [m2, h0]
/-- one step of the iterator -/
theorem Rng.step {pin : Bool} {ρ : Emb} {h : H} {w w0 : World} {idm idI : B} {E vis : En} (r : Rng pin ρ h w0 idm idI E vis) (R : HRel ρ h w w0) (ty : TypeId) :
    ∃ LI0, ρ idI 0 = some LI0 ∧ LI0.s = 0 ∧
    (((∀ p ∈ E, p ∈ vis) ∧ (Instr.next (.pointer (some ⟨LI0.b, 0, none⟩)) false ty).run P w = .ok (.tuple #[.bool false]) w) ∨
     ∃ k v kx vx h' ρ' w', (k, v) ∈ E ∧ k ∉ keysE vis ∧ (Instr.next (.pointer (some ⟨LI0.b, 0, none⟩)) false ty).run P w = .ok (.tuple #[.bool true, kx, vx]) w' ∧ VRel ρ' (sv k) kx ∧ VRel ρ' v vx ∧
       (Instr.entry (.pointer (some ⟨LI0.b, 0, none⟩))).run P w' = .ok (.tuple #[kx, vx]) w' ∧ ρ' idI 0 = some LI0 ∧
       KeepF h h' ∧ Stay (fun i => i = idI) h h' ∧ h'.next = h.next ∧ Ext h.floor ρ ρ' ∧ HRel ρ' h' w' w0 ∧ Rng pin ρ' h' w0 idm idI E (vis ++ [(k, v)])) := by
  obtain ⟨bI, gI, LI, LI0, LM0, es, clock, seen, visE, a1, a2, a3, a4, a5, a6, a7, a8, b4, b5, b8, b9, c1, c2⟩ := r.ok
  have hI := R.ito idI gI LI bI _ a4 a1 a2 (by omega) a8
  have hM' := b5.get R
  have hI' : w.heap[LI0.b]? = some (.mapIter (some LM0.b) clock seen clock) := by rw [← a6]; exact hI
  refine ⟨LI0, a5, a7, ?_⟩
  obtain ⟨l, l1, l2⟩ := b8.rel
  rcases run_next_at (P := P) w ty LI0.b LM0.b clock clock seen es clock hI' hM' b8.st.1 (Nat.le_refl _) with ⟨n1, n2⟩ | ⟨e, e1, w1, e2, e3⟩
  · refine .inl ⟨fun p hp => ?_, n2⟩
    obtain ⟨k, v⟩ := p
    obtain ⟨e, f1, f2, f3⟩ := l2.mem2 (toP_mem.2 hp)
    have hes : e ∈ es.toList := l1.mem_iff.1 f1
    have hseen : e.born ∈ seen.toList := by
      have hl : leftOf es seen = #[] := Array.eq_empty_of_size_eq_zero n1
      by_cases hc : seen.contains e.born = true
      · simpa using hc
      · have : e ∈ (leftOf es seen).toList := by
          unfold leftOf
          simp only [Array.toList_filter, List.mem_filter]
          exact ⟨hes, by simpa using hc⟩
        rw [hl] at this; cases this
    rw [c1, List.mem_map] at hseen
    obtain ⟨e', g1, g2⟩ := hseen
    have hee : e' = e := by
      have hn := b8.st.2.1
      have i1 := c2 e' g1
      obtain ⟨i, hi⟩ := List.mem_iff_getElem?.1 i1
      obtain ⟨j, hj⟩ := List.mem_iff_getElem?.1 hes
      have hp := List.pairwise_map.1 hn
      rw [List.pairwise_iff_getElem] at hp
      obtain ⟨x1, x2⟩ := List.getElem?_eq_some_iff.1 hi
      obtain ⟨y1, y2⟩ := List.getElem?_eq_some_iff.1 hj
      rcases Nat.lt_trichotomy i j with q | q | q
      · exact absurd (by rw [x2, y2]; exact g2) (hp i j x1 y1 q)
      · subst q; rw [← x2, ← y2]
      · exact absurd (by rw [x2, y2]; exact g2.symm) (hp j i y1 x1 q)
    subst hee
    obtain ⟨k', v', v1, v2, v3⟩ := b9.mem g1
    have hk : k' = k := key_det v2 f2
    subst hk
    have := r.vis.1 _ v1
    have : v' = v := by
      have hn := r.nod
      have h1 := getE_of hn this
      have h2 := getE_of hn hp
      rw [h1] at h2
      exact Option.some.inj h2
    subst this
    exact v1
  · obtain ⟨m1, m2⟩ := mem_left e1
    have hes : e ∈ l := l1.mem_iff.2 m1
    obtain ⟨k, v, v1, v2, v3⟩ := l2.mem hes
    have hk : k ∉ keysE vis := fun hk => by
      obtain ⟨u, hu⟩ := getE_mem.2 hk
      have hm := getE_in hu
      obtain ⟨e', f1, f2, f3⟩ := b9.mem2 (toP_mem.2 hm)
      have hkey : e'.key = e.key := key_det2 f2 v2
      obtain ⟨i, hi⟩ := List.mem_iff_getElem?.1 (c2 e' f1)
      obtain ⟨j, hj⟩ := List.mem_iff_getElem?.1 m1
      have := key_uniq b8.st hi hj hkey
      subst this
      rw [hi] at hj
      cases hj
      have hc : e.born ∈ seen.toList := by rw [c1]; exact List.mem_map.2 ⟨e, f1, rfl⟩
      have : seen.contains e.born = true := by simpa using hc
      rw [this] at m2; cases m2
    have hw1 : w1.heap = w.heap ∧ w1.tape = w.tape ∧ w1.os = w.os ∧ w1.output = w.output := by rcases e2 with rfl | rfl <;> exact ⟨rfl, rfl, rfl, rfl⟩
    have hlt : LI0.b < w.heap.size := (Array.getElem?_eq_some_iff.1 hI').1
    obtain ⟨h', ρ', s1, s2, s3, s4, s5, s6, s7⟩ := R.bump (w' := setBlock w1 LI0.b (.mapIter (some LM0.b) clock (seen.push e.born) clock)) (o := .inl (LM0.b, clock, seen.push e.born, clock)) a1 (by omega) r.floI a5
      (fun b hb => by show (w1.heap.setIfInBounds LI0.b _)[b]? = _; rw [hw1.1]; exact (heap_set hI').2 b hb) (by show (w1.heap.setIfInBounds LI0.b _).size = _; rw [hw1.1]; simp) hw1.2.1 hw1.2.2.1 hw1.2.2.2
      (by show (w1.heap.setIfInBounds LI0.b _)[LI0.b]? = _; rw [hw1.1]; exact (heap_set hI').1)
    have hI2 : (setBlock w1 LI0.b (.mapIter (some LM0.b) clock (seen.push e.born) clock)).heap[LI0.b]? = some (.mapIter (some LM0.b) clock (seen.push e.born) clock) := by show (w1.heap.setIfInBounds LI0.b _)[LI0.b]? = _; rw [hw1.1]; exact (heap_set hI').1
    have hM2 : (setBlock w1 LI0.b (.mapIter (some LM0.b) clock (seen.push e.born) clock)).heap[LM0.b]? = some (.map es clock) := by
      show (w1.heap.setIfInBounds LI0.b _)[LM0.b]? = _
      rw [hw1.1, (heap_set hI').2 _ fun e => by rw [e, hI'] at hM'; cases hM']; exact hM'
    have hle := s5.1
    refine .inr ⟨k, v, e.key, e.val, h', ρ', _, v1, hk, e3, VRel.up hle _ _ v2, VRel.up hle _ _ v3, run_entry_at _ LI0.b LM0.b clock seen es clock e hI2 hM2 m1 b8.st.2.1, hle _ _ _ a5, s1, s2, s3, s5, s7, ?_⟩
    have gM' : h'.heap.get idm = h.heap.get idm := s2.get idm (R.ids _ _ _ b4) fun e => r.ne e.symm
    refine ⟨⟨_, gI + 1, ⟨LI0.b, LI0.s, bI.size, LI0.cs, some (.inl (LM0.b, clock, seen.push e.born, clock))⟩, LI0, LM0, es, clock, seen.push e.born, visE ++ [e], s4, by show bI.cur + 1 = gI + 1; omega, by show bI.cur + 10 = gI + 1 + 9; omega, by rw [← a2]; exact s6, hle _ _ _ a5, rfl, a7, rfl, hle _ _ _ b4, b5.up hle s2.floor gM', b8.up hle, ?_, ?_, ?_⟩, r.ne, by rw [s2.floor]; exact r.floI, r.nod, ?_⟩
    · rw [toP_app]; exact (b9.up hle).snoc (VRel.up hle _ _ v2) (VRel.up hle _ _ v3)
    · rw [Array.toList_push, c1, List.map_append]; rfl
    · intro x hx
      rcases List.mem_append.1 hx with hx | hx
      · exact c2 x hx
      · rw [List.mem_singleton] at hx; rw [hx]; exact m1
    · refine ⟨fun p hp => ?_, ?_⟩
      · rcases List.mem_append.1 hp with hp | hp
        · exact r.vis.1 p hp
        · rw [List.mem_singleton] at hp; rw [hp]; exact v1
      · have : keysE (vis ++ [(k, v)]) = keysE vis ++ [k] := by simp [keysE]
        rw [this, List.nodup_append]
        exact ⟨r.vis.2, by simp, fun a ha b hb e => hk (by rw [List.mem_singleton] at hb; rw [← hb, ← e]; exact ha)⟩
end
theorem F2.last {ρ : Emb} {k v : V} : ∀ {ps : List (V × V)} {l : List MapEntry}, F2 ρ (ps ++ [(k, v)]) l → ∃ l' e, l = l' ++ [e] ∧ VRel ρ k e.key ∧ VRel ρ v e.val := by
  intro ps
  induction ps with
  | nil =>
    intro l f
    cases f with
    | cons a b c => cases c; exact ⟨[], _, rfl, a, b⟩
  | cons p r ih =>
    intro l f
    cases f with
    | cons a b c =>
      obtain ⟨l', e, e1, e2, e3⟩ := ih c
      exact ⟨_ :: l', e, by rw [e1]; rfl, e2, e3⟩
/-- the entry that the iterator is at -/
theorem Rng.entry {P : Program} {pin : Bool} {ρ : Emb} {h : H} {w w0 : World} {idm idI : B} {E vis : En} {k : List UInt8} {v : V} (r : Rng pin ρ h w0 idm idI E (vis ++ [(k, v)])) (R : HRel ρ h w w0) :
    ∃ LI0 kx vx, ρ idI 0 = some LI0 ∧ LI0.s = 0 ∧ (Instr.entry (.pointer (some ⟨LI0.b, 0, none⟩))).run P w = .ok (.tuple #[kx, vx]) w ∧ VRel ρ (sv k) kx ∧ VRel ρ v vx := by
  obtain ⟨bI, gI, LI, LI0, LM0, es, clock, seen, visE, a1, a2, a3, a4, a5, a6, a7, a8, b4, b5, b8, b9, c1, c2⟩ := r.ok
  have hI := R.ito idI gI LI bI _ a4 a1 a2 (by omega) a8
  have hM' := b5.get R
  rw [toP_app] at b9
  obtain ⟨l', e, rfl, e2, e3⟩ := b9.last
  have hs : seen = (l'.map (·.born)).toArray.push e.born := by
    apply Array.ext'
    rw [c1]; simp
  have hI' : w.heap[LI0.b]? = some (.mapIter (some LM0.b) clock ((l'.map (·.born)).toArray.push e.born) clock) := by rw [← hs, ← a6]; exact hI
  exact ⟨LI0, e.key, e.val, a5, a7, run_entry_at w LI0.b LM0.b clock _ es clock e hI' hM' (c2 e (by simp)) b8.st.2.1, e2, e3⟩
theorem wpOps_first {P : Program} {ops : Array Oper} {Q : Exit → Act → World → Prop} {n : Nat} {o : Oper} {rest : List Oper} {a : Act} {w w' : World} {v : Value} (hd : ops.toList.drop n = o :: rest) (hg : o.guard = none)
    (hr : (execOp a.eval o).run P w = .ok (.value v) w') (hk : wpOps P ops Q (List.range' (n + 1) rest.length) (a.put o.dst v) w') : wpOps P ops Q (List.range' n (rest.length + 1)) a w := by
  have hn : ops[n]? = some o := by
    have : ops.toList[n]? = some o := by
      have := congrArg (fun l => l[0]?) hd
      simpa using this
    simpa using this
  rw [List.range'_succ, wpOps_cons]
  unfold wpOp
  simp only [hn, wanted_none hg, if_true]
  refine .inl ?_
  unfold Oper.wp
  rw [hr]; exact hk
theorem exec_range {P : Program} {f : Operand → Value} {o : Oper} {T0 : TypeId} {m : Operand} {w w' : World} {x : Value} (ho : o.op = .range T0 m) (h : (Instr.range T0 (f m)).run P w = .ok x w') : (execOp f o).run P w = .ok (.value x) w' := by
  unfold execOp
  simp only [ho, Sem.run_bind, h, Result.andThen_ok]; rfl
theorem exec_next {P : Program} {f : Operand → Value} {o : Oper} {m : Operand} {w w' : World} {x : Value} (ho : o.op = .next m false) (h : (Instr.next (f m) false o.type).run P w = .ok x w') : (execOp f o).run P w = .ok (.value x) w' := by
  unfold execOp
  simp only [ho, Sem.run_bind, h, Result.andThen_ok]; rfl
theorem exec_entry {P : Program} {f : Operand → Value} {o : Oper} {m : Operand} {w w' : World} {x : Value} (ho : o.op = .entry m) (h : (Instr.entry (f m)).run P w = .ok x w') : (execOp f o).run P w = .ok (.value x) w' := by
  unfold execOp
  simp only [ho, Sem.run_bind, h, Result.andThen_ok]; rfl
theorem nodup_len {a b : List (List UInt8)} (hn : a.Nodup) (hs : ∀ x ∈ a, x ∈ b) : a.length ≤ b.length := by
  induction a generalizing b with
  | nil => exact Nat.zero_le _
  | cons x r ih =>
    have hx := List.nodup_cons.1 hn
    have hb : x ∈ b := hs x (List.mem_cons_self ..)
    have := ih (b := b.erase x) hx.2 fun y hy => (List.mem_erase_of_ne fun e => hx.1 (by rw [← e]; exact hy)).2 (hs y (List.mem_cons_of_mem _ hy))
    rw [List.length_erase_of_mem hb] at this
    have := List.length_pos_of_mem hb
    simp only [List.length_cons]; omega
theorem VisOk.len {E vis : En} (h : VisOk E vis) : vis.length ≤ E.length := by
  have := nodup_len h.2 (b := keysE E) fun x hx => by
    obtain ⟨p, h1, rfl⟩ := List.mem_map.1 hx
    exact List.mem_map.2 ⟨p, h.1 p h1, rfl⟩
  rwa [keysE_len, keysE_len] at this
/-- behind a round -/
def AfterR (out nxt : Nat) (I : F → H → Prop) (Kb : X → F → H → Prop) : X → F → H → Prop
  | .normal, t, g => I t g
  | .ret, t, g => Kb .ret t g
  | .exit j, t, g => if j = nxt then I t g else if j = out then Kb .normal t g else Kb (.exit j) t g
/-- all but the map and its iterator -/
def offR (idm idI : B) : B → Prop := fun i => i ≠ idm ∧ i ≠ idI
def xoR (out : Nat) : X → Exit
  | .normal => .exit out
  | .exit j => .exit j
  | .ret => .ret
/-- what is to be shown of a range's body -/
structure RngSpec (P : Program) (nt it : Nat) (cX : List CO) (more : Operand) (out nxt nx pr : Nat) (crest : List CO) (cb : Sh) (idm : B) (E : En) (Inv : B → En → F → H → Prop) (Kb : X → F → H → Prop) : Prop where
  hit : ∀ {idI vis t g}, Inv idI vis t g → get it t = .p idI 0 0 0
  turn : ∀ {idI vis t g g'}, Inv idI vis t g → Stay (fun i => i = idI) g g' → g'.next = g.next → Inv idI vis t g'
  stop : ∀ {idI vis t g}, Inv idI vis t g → VisOk E vis → (∀ p ∈ E, p ∈ vis) → WO P cX (put nx (.tu [.b false]) t) g fun t' g' => oV (compO more) t' = .b false ∧ Stay (offR idm idI) g g' ∧ Kb .normal t' g'
  each : ∀ {idI vis t g k v}, Inv idI vis t g → VisOk E vis → (k, v) ∈ E → k ∉ keysE vis →
    WO P cX (put nx (.tu [.b true, sv k, v]) t) g fun t2 g2 => oV (compO more) t2 = .b true ∧ get it t2 = .p idI 0 0 0 ∧ Stay (offR idm idI) g g2 ∧
      WO P crest (put pr (.tu [sv k, v]) t2) g2 fun t3 g3 => Stay (offR idm idI) g2 g3 ∧
        OkS P nt cb t3 g3 fun x t' g' => Stay (offR idm idI) g3 g' ∧ AfterR out nxt (Inv idI (vis ++ [(k, v)])) Kb x t' g'
theorem Rng.lts {pin : Bool} {ρ : Emb} {h : H} {w w0 : World} {idm idI : B} {E vis : En} (r : Rng pin ρ h w0 idm idI E vis) (R : HRel ρ h w w0) : B.val idm < B.val h.next ∧ B.val idI < B.val h.next := by
  obtain ⟨bI, gI, LI, LI0, LM0, es, clock, seen, visE, a1, a2, a3, a4, a5, a6, a7, a8, b4, _⟩ := r.ok
  exact ⟨R.ids _ _ _ b4, R.ids _ _ _ a5⟩
theorem Rng.off {pin : Bool} {ρ ρ' : Emb} {h h' : H} {w w0 : World} {idm idI : B} {E vis : En} (r : Rng pin ρ h w0 idm idI E vis) (R : HRel ρ h w w0) (hle : ρ.le ρ') (s : Stay (offR idm idI) h h') : Rng pin ρ' h' w0 idm idI E vis := by
  obtain ⟨l1, l2⟩ := r.lts R
  exact r.next hle s.floor (s.get idI l2 fun e => e.2 rfl) (s.get idm l1 fun e => e.1 rfl)
section
variable {P : Program} {nt : Nat} {it : Nat} {cX : List CO} {more : Operand} {out nxt : Nat} {nx pr : Nat} {crest : List CO} {cb : Sh} {idm : B} {E : En} {Inv : B → En → F → H → Prop} {Kb : X → F → H → Prop}
theorem RngSpec.loop (S : RngSpec P nt it cX more out nxt nx pr crest cb idm E Inv Kb) {id1 id2 nb : Nat} {ns : List Nat} {ops1 ops2 : Array Oper} {body : Code} {oN oE : Oper} {restN restE : List Oper}
    (n1 : ops1.toList = oN :: restN) (n2 : oN.op = .next (.tmp it) false) (n3 : oN.dst = some nx) (n4 : oN.guard = none) (n5 : cX = compOpsWith (fun _ => true) P nt ops1.toList (compOp P) 1 restN)
    (m1 : ops2.toList = oE :: restE) (m2 : oE.op = .entry (.tmp it)) (m3 : oE.dst = some pr) (m4 : oE.guard = none) (m5 : crest = compOpsWith (fun _ => true) P nt ops2.toList (compOp P) 1 restE) (hb : shOf P ns nt nb body = cb)
    (itl : it < 512) (nxl : nx < nt ∧ nx < 512) (prl : pr < nt ∧ pr < 512) {pin : Bool} {idI : B} {QQ : Exit → Act → World → Prop} {w0 : World} :
    ∀ (n : Nat) (vis : En) (t : F) (g : H) (ρ : Emb) (a : Act) (w : World), E.length - vis.length = n → Inv idI vis t g → Rng pin ρ g w0 idm idI E vis → Dn ρ g w0 → ARel ρ nt t a → HRel ρ g w w0 →
      (∀ x t' g' ρ' a' w' vis', Kb x t' g' → x ≠ .exit out → Rng pin ρ' g' w0 idm idI E vis' → KeepF g g' → B.val g.next ≤ B.val g'.next → Ext g.floor ρ ρ' → ARel ρ' nt t' a' → HRel ρ' g' w' w0 → QQ (xoR out x) a' w') →
      LoopArr P (.seq (.region id1 ops1 false) (.seq (.cond more .skip (.exit out)) (.block nxt (.seq (.region id2 ops2 false) body)))) QQ a w := by
  intro n
  induction n using Nat.strongRecOn with
  | _ n ih =>
    intro vis t g ρ a w hn hI r D A R hQ
    refine loopArr_of (wp_seq (wp_region ?_))
    have hsz : List.range ops1.size = List.range' 0 (restN.length + 1) := by
      have h1 : ops1.size = restN.length + 1 := by have := congrArg List.length n1; simpa using this
      rw [List.range_eq_range', h1]
    have hsz2 : List.range ops2.size = List.range' 0 (restE.length + 1) := by
      have h1 : ops2.size = restE.length + 1 := by have := congrArg List.length m1; simpa using this
      rw [List.range_eq_range', h1]
    rw [hsz]
    obtain ⟨LI0, hL, hs0, hstep⟩ := r.step (P := P) R oN.type
    have hp := tmp_ptr A itl (S.hit hI) hL hs0
    rcases hstep with ⟨hall, hrun⟩ | ⟨k, v, kx, vx, g1, ρ1, w1, hin, hk, hrun, v1, v2, _, hL1, kf, st, hnx, ex, R1, r1⟩
    · obtain ⟨t', g', o1, o2, o3, o4⟩ := S.stop hI r.vis hall
      refine wpOps_first (by rw [n1]; rfl) n4 (exec_next n2 (by rw [hp]; exact hrun)) ?_
      have A1 : ARel ρ nt (put nx (.tu [.b false]) t) (a.put oN.dst (.tuple #[.bool false])) := by rw [n3]; exact arel_put A ⟨_, rfl, rfl, trivial⟩ nxl.1 nxl.2
      rw [n5] at o1
      obtain ⟨k1, k2, k3⟩ := opsRel_ok (fun _ => true) restN 1 (by rw [n1]; rfl) _ _ _ _ o1
      refine k3 ρ _ w w0 _ A1 R fun ρ2 a2 w2 l2 A2 R2 => ?_
      have hm : a2.eval more = .bool false := by have := opnd_rel A2 more; rw [o2] at this; exact this
      refine wp_seq (wp_cond_false hm (wp_exit ?_))
      exact hQ .normal t' g' ρ2 a2 w2 vis o4 (fun h => by cases h) (r.off R l2.1 o3) k1 k2 l2 A2 R2
    · obtain ⟨t2, g2, o1, o2, o3, o4, t3, g3, o5, o6, o7⟩ := S.each (S.turn hI st hnx) r.vis hin hk
      refine wpOps_first (by rw [n1]; rfl) n4 (exec_next n2 (by rw [hp]; exact hrun)) ?_
      have A1 : ARel ρ1 nt (put nx (.tu [.b true, sv k, v]) t) (a.put oN.dst (.tuple #[.bool true, kx, vx])) := by rw [n3]; exact arel_put (A.up ex.1) ⟨_, rfl, rfl, v1, v2, trivial⟩ nxl.1 nxl.2
      rw [n5] at o1
      obtain ⟨k1, k2, k3⟩ := opsRel_ok (fun _ => true) restN 1 (by rw [n1]; rfl) _ _ _ _ o1
      refine k3 ρ1 _ w1 w0 _ A1 R1 fun ρ2 a2 w2 l2 A2 R2 => ?_
      have r2 : Rng pin ρ2 g2 w0 idm idI E (vis ++ [(k, v)]) := r1.off R1 l2.1 o4
      have hm : a2.eval more = .bool true := by have := opnd_rel A2 more; rw [o2] at this; exact this
      refine wp_seq (wp_cond_true hm (wp_skip ?_))
      refine wp_block (wp_seq (wp_region ?_))
      rw [hsz2]
      obtain ⟨LI2, kx2, vx2, hL2, hs2, hent2, u1, u2⟩ := r2.entry (P := P) R2
      have hp2 := tmp_ptr A2 itl o3 hL2 hs2
      refine wpOps_first (by rw [m1]; rfl) m4 (exec_entry m2 (by rw [hp2]; exact hent2)) ?_
      have A3 : ARel ρ2 nt (put pr (.tu [sv k, v]) t2) (a2.put oE.dst (.tuple #[kx2, vx2])) := by rw [m3]; exact arel_put A2 ⟨_, rfl, u1, u2, trivial⟩ prl.1 prl.2
      rw [m5] at o5
      obtain ⟨i1, i2, i3⟩ := opsRel_ok (fun _ => true) restE 1 (by rw [m1]; rfl) _ _ _ _ o5
      refine i3 ρ2 _ w2 w0 _ A3 R2 fun ρ4 a4 w4 l4 A4 R4 => ?_
      have r4 : Rng pin ρ4 g3 w0 idm idI E (vis ++ [(k, v)]) := r2.off R2 l4.1 o6
      have D1 : Dn ρ1 g1 w0 := D.up kf.1 ex
      have D2 : Dn ρ2 g2 w0 := D1.up k1.1 l2
      have D4 : Dn ρ4 g3 w0 := D2.up i1.1 l4
      refine o7 ns nb body hb ρ4 a4 w4 w0 _ D4 A4 R4 fun x t5 g5 ρ5 a5 w5 ⟨p1, p2⟩ j1 j2 j3 A5 R5 => ?_
      have r5 : Rng pin ρ5 g5 w0 idm idI E (vis ++ [(k, v)]) := r4.off R4 j3.1 p1
      have nn1 : B.val g.next ≤ B.val g1.next := by rw [hnx]; exact Nat.le_refl _
      have nn2 := Nat.le_trans nn1 k2
      have nn3 := Nat.le_trans nn2 i2
      have nn5 := Nat.le_trans nn3 j2
      have f1 : g1.floor = g.floor := kf.1
      have f2 : g2.floor = g.floor := k1.1.trans f1
      have f3 : g3.floor = g.floor := i1.1.trans f2
      have f5 : g5.floor = g.floor := j1.1.trans f3
      have kf5 : KeepF g g5 := KeepF.trans (KeepF.trans (KeepF.trans kf nn1 k1) nn2 i1) nn3 j1
      have ex5 : Ext g.floor ρ ρ5 := ((ex.trans (by rw [← f1]; exact l2)).trans (by rw [← f2]; exact l4)).trans (by rw [← f3]; exact j3)
      have again : Inv idI (vis ++ [(k, v)]) t5 g5 → LoopArr P (.seq (.region id1 ops1 false) (.seq (.cond more .skip (.exit out)) (.block nxt (.seq (.region id2 ops2 false) body)))) QQ a5 w5 := fun hI5 =>
        ih (E.length - (vis.length + 1)) (by have := r5.vis.len; simp at this; omega) (vis ++ [(k, v)]) t5 g5 ρ5 a5 w5 (by simp) hI5 r5 (D4.up j1.1 j3) A5 R5
          fun x t' g' ρ' a' w' vis' q1 q2 q3 q4 q5 q6 q7 q8 => hQ x t' g' ρ' a' w' vis' q1 q2 q3 (KeepF.trans kf5 nn5 q4) (Nat.le_trans nn5 q5) (ex5.trans (by rw [← f5]; exact q6)) q7 q8
      have leave : ∀ x, Kb x t5 g5 → x ≠ .exit out → QQ (xoR out x) a5 w5 := fun x hx hxo => hQ x t5 g5 ρ5 a5 w5 _ hx hxo r5 kf5 nn5 ex5 A5 R5
      cases x with
      | normal => exact again p2
      | ret => exact leave .ret p2 (fun h => by cases h)
      | exit j =>
        have p2' : if j = nxt then Inv idI (vis ++ [(k, v)]) t5 g5 else if j = out then Kb .normal t5 g5 else Kb (.exit j) t5 g5 := p2
        show (if j = nxt then LoopArr P _ QQ a5 w5 else QQ (.exit j) a5 w5)
        by_cases e1 : j = nxt
        · rw [if_pos e1] at p2' ⊢; exact again p2'
        · rw [if_neg e1] at p2' ⊢
          by_cases e2 : j = out
          · rw [if_pos e2] at p2'; rw [e2]; exact leave .normal p2' (fun h => by cases h)
          · rw [if_neg e2] at p2'; exact leave (.exit j) p2' (fun h => by cases h; exact e2 rfl)
variable {c : Code} {cpre : List CO} {m : Operand} {K : X → F → H → Prop} {t t1 : F} {h h1 : H}
/-- 'for k, v := range m' -/
theorem CodeN.range (S : RngShape P nt c cpre m it cX more out nxt nx pr crest cb) (hpre : OpsRel P cpre t h t1 h1) (hm : oV (compO m) t1 = .m idm) (hM : MapC h1 idm E)
    (start : ∀ g, Stay (fun i => i = idm) h1 g → B.val g.next = B.val h1.next + 1 → Inv h1.next [] (put it (.p h1.next 0 0 0) t1) g)
    (spec : RngSpec P nt it cX more out nxt nx pr crest cb idm E Inv Kb)
    (fin : ∀ x t' g g', Kb x t' g → x ≠ .exit out → Stay (fun i => i = idm) g g' → g'.next = g.next → MapC g' idm E → K x t' g') : CodeN P nt c t h K := by
  obtain ⟨id0, ops0, id1, ops1, id2, ops2, body, rfl, ⟨pre, oR, T0, kt, et, p1, p2, p3, p4, p5, p6⟩, ⟨oN, restN, n1, n2, n3, n4, n5⟩, ⟨oE, restE, m1, m2, m3, m4, m5⟩, ns, nb, hb⟩ := S.ok
  intro ρ a w w0 Q D A R hQ
  refine wp_seq (wp_region ?_)
  have hsz : List.range ops0.size = List.range' 0 (pre.length + [oR].length) := by
    have h1 : ops0.size = pre.length + 1 := by have := congrArg List.length p1; simpa using this
    rw [List.range_eq_range', h1]; rfl
  rw [hsz]
  rw [p6] at hpre
  obtain ⟨k1, k2, k3⟩ := opsRel_pre (fun _ => true) [oR] pre 0 (by rw [p1]; rfl) _ _ _ _ hpre
  refine k3 ρ a w w0 _ A R fun ρ1 a1 w1 l1 A1 R1 => ?_
  have hmv := opnd_rel A1 m
  rw [hm] at hmv
  obtain ⟨L0, hL0, hev⟩ := hmv
  obtain ⟨bm, b1, b2, b3⟩ := hM.blk
  obtain ⟨es, clock, e1, ps, q1, q2⟩ := R1.mp.map idm L0 bm hL0 b1 b2
  have hps : ps = toP E := q1.uniq b3
  subst hps
  obtain ⟨h2, ρ2, s1, s2, s3, s4, s5, s6, s7⟩ := R1.bump (w' := w1) (o := .inr (es, clock)) b1 (by omega) hM.flo hL0 (fun _ _ => rfl) rfl rfl rfl rfl e1
  obtain ⟨h3, ρ3, u1, u2, u3, u4, u5, u6, u7⟩ := s7.newIt (L0.b, clock, #[], clock)
  have hrun := run_range_map (P := P) w1 T0 kt et L0.b es clock p5 e1
  refine wpOps_first (rest := []) (by rw [p1]; simp) p4 (exec_range p2 (by rw [hev]; exact hrun)) ?_
  have A3 : ARel ρ3 nt (put it (.p h1.next 0 0 0) t1) (a1.put oR.dst (.pointer (some ⟨w1.heap.size, 0, none⟩))) := by
    rw [p3]; exact arel_put (A1.up (Emb.le_trans s5.1 u5.1)) ⟨_, by rw [← s3]; exact u6, rfl, Nat.le_refl _, Nat.le_refl _⟩ S.itl.1 S.itl.2
  have hne : h1.next ≠ idm := fun e => by have := hM.lt; rw [e] at this; exact absurd this (Nat.lt_irrefl _)
  have f2 : h2.floor = h1.floor := s1.1
  have f3 : h3.floor = h1.floor := u1.1.trans f2
  have st3 : Stay (fun i => i = idm) h1 h3 := s2.trans (u2.mono fun _ _ h => h.elim)
  have hlt2 : B.val idm < B.val h2.next := by rw [s3]; exact hM.lt
  have r0 : Rng true ρ3 h3 w0 idm h1.next E [] := by
    refine ⟨⟨_, 0, _, _, L0, es, clock, #[], [], by rw [← s3]; exact u4, rfl, rfl, by rw [← s3]; exact u6, by rw [← s3]; exact u6, rfl, rfl, rfl, u5.1 _ _ _ (s5.1 _ _ _ hL0), ⟨_, bm.cur + 1, _, (u2.get idm hlt2 fun h => h).trans s4, rfl, by show bm.cur + 10 = bm.cur + 1 + 9; omega, u5.1 _ _ _ s6, rfl, rfl, b3, by rw [f3]; exact hM.flo⟩, (q2.up s5.1).up u5.1, .nil, rfl, by intro e he; cases he⟩, hne, ?_, hM.nod, ⟨(by intro p hp; cases hp), List.nodup_nil⟩⟩
    rw [f3]; exact R1.flo
  have D3 : Dn ρ3 h3 w0 := ((D.up k1.1 l1).up s1.1 s5).up u1.1 u5
  refine wp_block (wp_loop_of ?_)
  refine RngSpec.loop spec n1 n2 n3 n4 n5 m1 m2 m3 m4 m5 hb S.itl.2 S.nxl S.prl _ [] _ h3 ρ3 _ _ rfl (start h3 st3 (by rw [u3, s3])) r0 D3 A3 u7 fun x t' g' ρ' a' w' vis' y1 y2 y3 y4 y5 y6 y7 y8 => ?_
  obtain ⟨bI, gI, LI, LI0, LM0, es', clock', seen, visE, c1, c2, c3, c4, c5, c6, c7, c8, d4, dx, d8, _⟩ := y3.ok
  have hMn := dx.get y8
  obtain ⟨bM, gM, LM, x1, x2, x3, x4, x5, x6, d7, x8⟩ := dx
  obtain ⟨h', z1, z2, z3, z4, z5⟩ := y8.unpin x1 (by omega) x8 d4 hMn d7 d8
  have hK := fin x t' g' h' y1 y2 z2 z3 ⟨⟨_, z4, rfl, d7⟩, by rw [z2.floor]; exact x8, by rw [z3]; exact y8.ids _ _ _ d4, y3.nod⟩
  have nn1 := k2
  have nn2 : B.val h.next ≤ B.val h2.next := by rw [s3]; exact k2
  have nn3 : B.val h.next ≤ B.val h3.next := by rw [u3]; omega
  have nn4 := Nat.le_trans nn3 y5
  have f1 : h1.floor = h.floor := k1.1
  have kf : KeepF h h' := KeepF.trans (KeepF.trans (KeepF.trans (KeepF.trans k1 nn1 s1) nn2 u1) nn3 y4) nn4 z1
  have ex : Ext h.floor ρ ρ' := ((l1.trans (by rw [← f1]; exact s5)).trans (by rw [← f1, ← f2]; exact u5)).trans (by rw [← f1, ← f3]; exact y6)
  have nn5 : B.val h.next ≤ B.val h'.next := by rw [z3]; exact nn4
  cases x with
  | normal =>
    show (if out = out then Q .normal a' w' else Q (.exit out) a' w')
    rw [if_pos rfl]
    exact hQ .normal t' h' ρ' a' w' hK kf nn5 ex y7 z5
  | ret => exact hQ .ret t' h' ρ' a' w' hK kf nn5 ex y7 z5
  | exit j =>
    show (if j = out then Q .normal a' w' else Q (.exit j) a' w')
    rw [if_neg fun e => y2 (by rw [e])]
    exact hQ (.exit j) t' h' ρ' a' w' hK kf nn5 ex y7 z5
/-- what is known of a map below the floor -/
structure MapF (h : H) (id : B) (E : En) : Prop where
  blk : ∃ b, h.heap.get id = some b ∧ b.min = b.cur + 7 ∧ RdP b.cells b.el (toP E)
  lo : B.val id < B.val h.floor
  nod : (keysE E).Nodup
/-- .. of a map that was there ahead of all -/
theorem CodeN.rangeF (S : RngShape P nt c cpre m it cX more out nxt nx pr crest cb) (hpre : OpsRel P cpre t h t1 h1) (hm : oV (compO m) t1 = .m idm) (hM : MapF h1 idm E)
    (start : ∀ g, Stay nowhere h1 g → B.val g.next = B.val h1.next + 1 → Inv h1.next [] (put it (.p h1.next 0 0 0) t1) g)
    (spec : RngSpec P nt it cX more out nxt nx pr crest cb idm E Inv Kb)
    (fin : ∀ x t' g, Kb x t' g → x ≠ .exit out → K x t' g) : CodeN P nt c t h K := by
  obtain ⟨id0, ops0, id1, ops1, id2, ops2, body, rfl, ⟨pre, oR, T0, kt, et, p1, p2, p3, p4, p5, p6⟩, ⟨oN, restN, n1, n2, n3, n4, n5⟩, ⟨oE, restE, m1, m2, m3, m4, m5⟩, ns, nb, hb⟩ := S.ok
  intro ρ a w w0 Q D A R hQ
  refine wp_seq (wp_region ?_)
  have hsz : List.range ops0.size = List.range' 0 (pre.length + [oR].length) := by
    have h1 : ops0.size = pre.length + 1 := by have := congrArg List.length p1; simpa using this
    rw [List.range_eq_range', h1]; rfl
  rw [hsz]
  rw [p6] at hpre
  obtain ⟨k1, k2, k3⟩ := opsRel_pre (fun _ => true) [oR] pre 0 (by rw [p1]; rfl) _ _ _ _ hpre
  refine k3 ρ a w w0 _ A R fun ρ1 a1 w1 l1 A1 R1 => ?_
  have D1 : Dn ρ1 h1 w0 := D.up k1.1 l1
  have hmv := opnd_rel A1 m
  rw [hm] at hmv
  obtain ⟨L0, hL0, hev⟩ := hmv
  obtain ⟨bm, b1, b2, b3⟩ := hM.blk
  obtain ⟨es, clock, e1, ps, q1, q2⟩ := R1.mp.map idm L0 bm hL0 b1 b2
  have hps : ps = toP E := q1.uniq b3
  subst hps
  have hold := D1 _ _ _ hM.lo hL0
  obtain ⟨h3, ρ3, u1, u2, u3, u4, u5, u6, u7⟩ := R1.newIt (L0.b, clock, #[], clock)
  have hrun := run_range_map (P := P) w1 T0 kt et L0.b es clock p5 e1
  refine wpOps_first (rest := []) (by rw [p1]; simp) p4 (exec_range p2 (by rw [hev]; exact hrun)) ?_
  have A3 : ARel ρ3 nt (put it (.p h1.next 0 0 0) t1) (a1.put oR.dst (.pointer (some ⟨w1.heap.size, 0, none⟩))) := by
    rw [p3]; exact arel_put (A1.up u5.1) ⟨_, u6, rfl, Nat.le_refl _, Nat.le_refl _⟩ S.itl.1 S.itl.2
  have hne : h1.next ≠ idm := fun e => by have h1' := hM.lo; have h2' := R1.flo; rw [e] at h2'; exact absurd h1' (Nat.not_lt.2 h2')
  have f3 : h3.floor = h1.floor := u1.1
  have r0 : Rng false ρ3 h3 w0 idm h1.next E [] := by
    refine ⟨⟨_, 0, _, _, L0, es, clock, #[], [], u4, rfl, rfl, u6, u6, rfl, rfl, rfl, u5.1 _ _ _ hL0, ⟨hold, (R1.old _ hold).symm.trans e1⟩, q2.up u5.1, .nil, rfl, by intro e he; cases he⟩, hne, ?_, hM.nod, ⟨(by intro p hp; cases hp), List.nodup_nil⟩⟩
    rw [f3]; exact R1.flo
  refine wp_block (wp_loop_of ?_)
  refine RngSpec.loop spec n1 n2 n3 n4 n5 m1 m2 m3 m4 m5 hb S.itl.2 S.nxl S.prl _ [] _ h3 ρ3 _ _ rfl (start h3 u2 u3) r0 (D1.up u1.1 u5) A3 u7 fun x t' g' ρ' a' w' vis' y1 y2 y3 y4 y5 y6 y7 y8 => ?_
  have hK := fin x t' g' y1 y2
  have nn3 : B.val h.next ≤ B.val h3.next := by rw [u3]; omega
  have f1 : h1.floor = h.floor := k1.1
  have kf : KeepF h g' := KeepF.trans (KeepF.trans k1 k2 u1) nn3 y4
  have ex : Ext h.floor ρ ρ' := (l1.trans (by rw [← f1]; exact u5)).trans (by rw [← f1, ← f3]; exact y6)
  have nn5 : B.val h.next ≤ B.val g'.next := Nat.le_trans nn3 y5
  cases x with
  | normal =>
    show (if out = out then Q .normal a' w' else Q (.exit out) a' w')
    rw [if_pos rfl]
    exact hQ .normal t' g' ρ' a' w' hK kf nn5 ex y7 y8
  | ret => exact hQ .ret t' g' ρ' a' w' hK kf nn5 ex y7 y8
  | exit j =>
    show (if j = out then Q .normal a' w' else Q (.exit j) a' w')
    rw [if_neg fun e => y2 (by rw [e])]
    exact hQ (.exit j) t' g' ρ' a' w' hK kf nn5 ex y7 y8
/-- .. of no map -/
theorem CodeN.range0 (S : RngShape P nt c cpre m it cX more out nxt nx pr crest cb) (hpre : OpsRel P cpre t h t1 h1) (hm : oV (compO m) t1 = .m0)
    (stop : WO P cX (put nx (.tu [.b false]) (put it .u t1)) h1 fun t' g' => oV (compO more) t' = .b false ∧ K .normal t' g') : CodeN P nt c t h K := by
  obtain ⟨id0, ops0, id1, ops1, id2, ops2, body, rfl, ⟨pre, oR, T0, kt, et, p1, p2, p3, p4, p5, p6⟩, ⟨oN, restN, n1, n2, n3, n4, n5⟩, _, _, _⟩ := S.ok
  intro ρ a w w0 Q D A R hQ
  refine wp_seq (wp_region ?_)
  have hsz : List.range ops0.size = List.range' 0 (pre.length + [oR].length) := by
    have h1 : ops0.size = pre.length + 1 := by have := congrArg List.length p1; simpa using this
    rw [List.range_eq_range', h1]; rfl
  rw [hsz]
  rw [p6] at hpre
  obtain ⟨k1, k2, k3⟩ := opsRel_pre (fun _ => true) [oR] pre 0 (by rw [p1]; rfl) _ _ _ _ hpre
  refine k3 ρ a w w0 _ A R fun ρ1 a1 w1 l1 A1 R1 => ?_
  have hev := opnd_rel A1 m
  rw [hm] at hev
  have hev : a1.eval m = .map none := hev
  refine wpOps_first (rest := []) (by rw [p1]; simp) p4 (exec_range p2 (by rw [hev]; exact run_range_nilMap w1 T0 kt et p5)) ?_
  have A3 : ARel ρ1 nt (put it .u t1) (a1.put oR.dst (.pointer (some ⟨w1.heap.size, 0, none⟩))) := by rw [p3]; exact arel_put A1 trivial S.itl.1 S.itl.2
  have R3 : HRel ρ1 h1 (w1.alloc (.mapIter none 0 #[] 0)) w0 := R1.grow (fun b hb => alloc_get_old _ _ hb) (by rw [alloc_size]; exact Nat.le_succ _) rfl rfl rfl
  have hp : (a1.put oR.dst (.pointer (some ⟨w1.heap.size, 0, none⟩))).eval (.tmp it) = .pointer (some ⟨w1.heap.size, 0, none⟩) := by
    rw [p3]
    show (a1.tmps.setIfInBounds it _).getD it undef = _
    have : it < a1.tmps.size := by rw [A1.size]; exact S.itl.1
    simp [Array.getD_eq_getD_getElem?, this]
  refine wp_block (wp_loop_of (loopArr_of (wp_seq (wp_region ?_))))
  have hsz1 : List.range ops1.size = List.range' 0 (restN.length + 1) := by
    have h1 : ops1.size = restN.length + 1 := by have := congrArg List.length n1; simpa using this
    rw [List.range_eq_range', h1]
  rw [hsz1]
  obtain ⟨t', g', o1, o2, o3⟩ := stop
  refine wpOps_first (by rw [n1]; rfl) n4 (exec_next n2 (by rw [hp]; exact run_next_nilMap w1 oN.type 0 0 #[])) ?_
  have A4 := arel_put (v := .tu [.b false]) (x := .tuple #[.bool false]) A3 ⟨_, rfl, rfl, trivial⟩ S.nxl.1 S.nxl.2
  rw [← n3] at A4
  rw [n5] at o1
  obtain ⟨j1, j2, j3⟩ := opsRel_ok (fun _ => true) restN 1 (by rw [n1]; rfl) _ _ _ _ o1
  refine j3 ρ1 _ _ w0 _ A4 R3 fun ρ2 a2 w2 l2 A2 R2 => ?_
  have hmo : a2.eval more = .bool false := by have := opnd_rel A2 more; rw [o2] at this; exact this
  refine wp_seq (wp_cond_false hmo (wp_exit ?_))
  show (if out = out then Q .normal a2 w2 else Q (.exit out) a2 w2)
  rw [if_pos rfl]
  exact hQ .normal t' g' ρ2 a2 w2 o3 (KeepF.trans k1 k2 j1) (Nat.le_trans k2 j2) (l1.trans (by rw [← k1.1]; exact l2)) A2 R2
end
theorem rgTry_ok {P : Program} {ns : List Nat} {nt nb : Nat} {c body : Code} {r : RgP} {cb : Sh} (h : rgTry P nt c = some (r, body)) (hb : shOf P ns nt nb body = cb) : RngShape P nt c r.cpre r.m r.it r.cX r.more r.out r.nxt r.nx r.pr r.crest cb := by
  unfold rgTry at h
  obtain ⟨⟨o0, o1, o2, more, out, out2, nxt, body'⟩, h1, h⟩ := Option.bind_eq_some_iff.1 h
  obtain ⟨⟨pre, oR⟩, h2, h⟩ := Option.bind_eq_some_iff.1 h
  obtain ⟨⟨T, m, it⟩, h3, h⟩ := Option.bind_eq_some_iff.1 h
  obtain ⟨⟨oN, restN⟩, h4, h⟩ := Option.bind_eq_some_iff.1 h
  obtain ⟨⟨it1, nx⟩, h5, h⟩ := Option.bind_eq_some_iff.1 h
  obtain ⟨⟨oE, restE⟩, h6, h⟩ := Option.bind_eq_some_iff.1 h
  obtain ⟨⟨it2, pr⟩, h7, h⟩ := Option.bind_eq_some_iff.1 h
  simp only at h
  split at h
  · rename_i hc
    cases h
    simp only [Bool.and_eq_true] at hc
    obtain ⟨⟨⟨⟨⟨⟨c1, c2⟩, c3⟩, c4⟩, c5⟩, c6⟩, c7⟩ := hc
    obtain rfl := Nat.eq_of_beq_eq_true c2
    obtain rfl := Nat.eq_of_beq_eq_true c3
    obtain rfl := Nat.eq_of_beq_eq_true c4
    obtain ⟨kt, et, hT⟩ := rgMap_ok c1
    obtain ⟨id0, id1, id2, rfl⟩ := rgCode_ok h1
    obtain ⟨a1, a2, a3⟩ := rgHead_ok h3
    obtain ⟨b1, b2, b3⟩ := rgNext_ok h5
    obtain ⟨d1, d2, d3⟩ := rgEntry_ok h7
    exact ⟨⟨id0, o0, id1, o1, id2, o2, body, rfl, ⟨pre, oR, T, kt, et, splitLast_ok h2, a1, a2, a3, hT, rfl⟩, ⟨oN, restN, headO_ok h4, b1, b2, b3, rfl⟩, ⟨oE, restE, headO_ok h6, d1, d2, d3, rfl⟩, ns, nb, hb⟩, fits_ok c5, fits_ok c6, fits_ok c7⟩
  · cases h
section
variable {P : Program} {nt : Nat} {r : RgP} {cb : Sh} {idm : B} {E : En} {Inv : B → En → F → H → Prop} {Kb K : X → F → H → Prop} {t t1 : F} {h h1 : H}
theorem OkS.of_shape (a : ∀ c, RngShape P nt c r.cpre r.m r.it r.cX r.more r.out r.nxt r.nx r.pr r.crest cb → CodeN P nt c t h K) : OkS P nt (.rng r cb) t h K := by
  intro ns n
  induction n with
  | zero => intro c e; cases e
  | succ n ih =>
    intro c e
    unfold shOf at e
    split at e
    · rename_i r' body hr
      cases e
      exact a c (rgTry_ok hr rfl)
    · cases c with
      | seq c1 c2 => have e : shSeq (shOf P ns nt n c1) (shOf P ns nt n c2) = .rng r cb := e; cases hs : shOf P ns nt n c1 <;> cases hs2 : shOf P ns nt n c2 <;> rw [hs, hs2] at e <;> cases e
      | block i c1 => have e : shBlk i (shOf P ns nt n c1) = .rng r cb := e; cases hs : shOf P ns nt n c1 <;> rw [hs] at e <;> cases e
      | scope c1 => exact CodeN.scope (ih c1 e)
      | cond o c1 c2 => have e : shCond (compO o) (shOf P ns nt n c1) (shOf P ns nt n c2) = .rng r cb := e; cases hs : shOf P ns nt n c1 <;> cases hs2 : shOf P ns nt n c2 <;> rw [hs, hs2] at e <;> cases e
      | loop c1 => have e : shLoop (shOf P ns nt n c1) = .rng r cb := e; rcases shLoop_or (shOf P ns nt n c1) with ⟨_, h⟩ | ⟨_, h⟩ <;> rw [h] at e <;> cases e
      | region _ ops dr => have e : shReg P ns nt ops dr = .rng r cb := e; rcases shReg_or P ns nt ops dr with h | ⟨_, _, _, _, _, _, _, _, h, _⟩ <;> rw [h] at e <;> cases e
      | _ => cases e
theorem OkS.rngF (pre : WO P r.cpre t h fun t1 h1 => ∃ idm E Inv Kb, oV (compO r.m) t1 = .m idm ∧ MapF h1 idm E ∧
      (∀ g, Stay nowhere h1 g → B.val g.next = B.val h1.next + 1 → Inv h1.next [] (put r.it (.p h1.next 0 0 0) t1) g) ∧
      RngSpec P nt r.it r.cX r.more r.out r.nxt r.nx r.pr r.crest cb idm E Inv Kb ∧
      (∀ x t' g, Kb x t' g → x ≠ .exit r.out → K x t' g)) : OkS P nt (.rng r cb) t h K := by
  obtain ⟨t1, h1, hpre, idm, E, Inv, Kb, hm, hM, start, spec, fin⟩ := pre
  exact OkS.of_shape fun _ S => CodeN.rangeF S hpre hm hM start spec fin
theorem OkS.rng0 (pre : WO P r.cpre t h fun t1 h1 => oV (compO r.m) t1 = .m0 ∧ WO P r.cX (put r.nx (.tu [.b false]) (put r.it .u t1)) h1 fun t' g' => oV (compO r.more) t' = .b false ∧ K .normal t' g') : OkS P nt (.rng r cb) t h K := by
  obtain ⟨t1, h1, hpre, hm, stop⟩ := pre
  exact OkS.of_shape fun _ S => CodeN.range0 S hpre hm stop
end
end Go.Ev

set_option maxRecDepth 1000000
set_option linter.all false
namespace Go.Proofs.YtiokhkainaodnaaGreatDoor
open Go Go.Ev
noncomputable abbrev r193_0 : RgP := (RgP.mk [(wB 6 (doMove (tm 0))), (wB 7 (doNilCheck (tm 6))), (wB 8 (doFieldAddr 1 (tm 7))), (wB 9 (doLoad (tm 8)))] (Operand.tmp 9) 10 [(wB 12 (doExtract 0 (tm 11)))] (Operand.tmp 12) 0 1 11 13 [(wB 14 (doExtract 1 (tm 13))), (wB 5 (doMove (tm 14)))])
noncomputable abbrev s193_0 : CC := (CC.region [(wB 15 (doMove (tm 3))), (wB 16 (doMove (tm 5))), (wB 17 (doLen (tm 16))), (wB 18 (bin2 fAdd (tm 15) (tm 17))), (wB 3 (doMove (tm 18)))])
noncomputable abbrev s193_1 : Sh := (Sh.cc s193_0)
noncomputable abbrev s193_2 : CC := (CC.seq (CC.region [(wB 19 (doMove (tm 3))), (wB 2 (doMove (tm 19)))]) CC.ret)
noncomputable abbrev s193_3 : Sh := (Sh.cc s193_2)
noncomputable abbrev s193_4 : Sh := (Sh.seq (Sh.rng r193_0 s193_1) s193_3)
noncomputable abbrev s193_5 : Sh := (Sh.seq (Sh.cc (CC.region [(wB 3 (doMove (oN 0)))])) s193_4)
noncomputable abbrev b193 : Sh := (Sh.seq (Sh.cc (CC.region [(wB 2 (doMove (oN 0)))])) s193_5)
theorem cs193 : shFnN Tryz.prog [] 193 = ⟨20, b193, [(Rs.tmp (slOf 2))]⟩ := by kernel_rfl
end Go.Proofs.YtiokhkainaodnaaGreatDoor

namespace Go.Proofs.YtiokhkainaodnaaGreatDoor
open Go Go.Ev
theorem hmix : Tryz.prog.follows .mixedOrders = true := by kernel_rfl
open Go.Ev in
instance {nt : Nat} {t : F} {h : H} {K : X → F → H → Prop} {l : List CO} {ch : Option (List Nat × List (Nat × List Nat))} : St (Ok Tryz.prog nt (.draws l ch) t h K) (DO Tryz.prog l t h (K .normal)) := ⟨Ok.dw hmix⟩
end Go.Proofs.YtiokhkainaodnaaGreatDoor

set_option maxRecDepth 100000
set_option maxHeartbeats 8000000
set_option linter.all false
namespace Go.Proofs.YtiokhkainaodnaaGreatDoor
open Go Go.Ev
section
theorem wo_gen {P : Program} {l : List CO} {t : F} {h : H} {K0 : F → H → Prop} (a : ∀ K, K = K0 → WO P l t h K) : WO P l t h K0 := a K0 rfl
theorem sqs_n {P : Program} {nt : Nat} {s : Sh} {K : X → F → H → Prop} {t : F} {h : H} : SqS P nt s K .normal t h = OkS P nt s t h K := rfl
theorem fn_so {P : Program} {ns : List Nat} {f nt : Nat} {sh : Sh} {rs : List Rs} {vs : List V} {h : H} {K : V → H → Prop} (hf : shFnN P ns f = ⟨nt, sh, rs⟩) (hnt : 0 < nt) (hl1 : vs.length ≤ nt) (hl2 : vs.length ≤ 512) (ok : ∀ Q, Q = K → OkS P nt sh (slotsF vs 0 F.zero) h (FnK rs Q)) : FnN P f vs h K := fn_s hf hnt hl1 hl2 (ok K rfl)
theorem row_re {h : H} {id : B} {g o : Nat} {xs : List V} (r : Row h id g o xs) : Row (reFloor h) id g o xs := by cases h; exact r
def lenV (v : V) : Nat := match v with
  | .l _ _ _ len _ _ => len
  | _ => 0
def IsSl (v : V) : Prop := v = .l0 ∨ ∃ id g off len fin cap, v = .l id g off len fin cap
theorem IsSl.ln {P : Program} {h : H} {N : Nx} {v : V} (a : IsSl v) : H1 P gLen v h N = N.go P (.i .i64 (lenV v : Int)) h := by
  rcases a with rfl | ⟨id, g, off, len, fin, cap, rfl⟩
  · exact hv_of fun k => rfl
  · exact hv_of fun k => rfl
def usedE (E : En) : Nat := (E.map fun p => lenV p.2).sum
theorem usedE_app (E : En) (k : List UInt8) (v : V) : usedE (E ++ [(k, v)]) = usedE E + lenV v := by simp [usedE]
theorem pair_nodup {E : En} (hn : (keysE E).Nodup) : E.Nodup := by
  induction E with
  | nil => exact List.nodup_nil
  | cons p r ih =>
    have h := List.nodup_cons.1 (show (p.1 :: keysE r).Nodup from hn)
    exact List.nodup_cons.2 ⟨fun hp => h.1 (List.mem_map.2 ⟨p, hp, rfl⟩), ih h.2⟩
theorem VisOk.perm {E vis : En} (hn : (keysE E).Nodup) (hv : VisOk E vis) (ha : ∀ p ∈ E, p ∈ vis) : vis.Perm E := (List.perm_ext_iff_of_nodup (pair_nodup hv.2) (pair_nodup hn)).2 fun p => ⟨hv.1 p, ha p⟩
theorem usedE_perm {E F : En} (h : E.Perm F) : usedE E = usedE F := (h.map _).sum_nat
theorem sum_le_of_visok {E vis : En} (hv : VisOk E vis) : usedE vis ≤ usedE E := by
  haveI : DecidableEq (List UInt8 × V) := fun a b => Classical.propDecidable _
  have h1 : vis.Nodup := pair_nodup hv.2
  obtain ⟨h2, h3⟩ := hv
  clear h3
  induction vis generalizing E with
  | nil => exact Nat.zero_le _
  | cons p r ih =>
    have hp := h2 p (List.mem_cons_self ..)
    have hn := List.nodup_cons.1 h1
    have e : usedE E = lenV p.2 + usedE (E.erase p) := by
      rw [usedE_perm (List.perm_cons_erase hp)]; simp [usedE]
    have := ih (E := E.erase p) hn.2 (fun q hq => (List.mem_erase_of_ne fun (e : q = p) => hn.1 (by rw [← e]; exact hq)).2 (h2 q (List.mem_cons_of_mem _ hq)))
    rw [e]
    show lenV p.2 + usedE r ≤ _
    omega
/-- what a map holds, be it below the floor or not -/
structure MapB (h : H) (id : B) (E : En) : Prop where
  blk : ∃ b, h.heap.get id = some b ∧ b.min = b.cur + 7 ∧ RdP b.cells b.el (toP E)
  lt : B.val id < B.val h.next
  nod : (keysE E).Nodup
theorem _root_.Go.Ev.MapC.b {h : H} {id : B} {E : En} (m : MapC h id E) : MapB h id E := ⟨m.blk, m.lt, m.nod⟩
theorem MapB.re {h : H} {id : B} {E : En} (m : MapB h id E) : MapB (reFloor h) id E := by
  obtain ⟨b, b1, b2⟩ := m.blk
  exact ⟨⟨b, by rw [reFloor_heap]; exact b1, b2⟩, by rw [reFloor_next]; exact m.lt, m.nod⟩
theorem MapB.mf {h : H} {id : B} {E : En} (m : MapB h id E) : MapF (reFloor h) id E := by
  obtain ⟨b, b1, b2⟩ := m.blk
  exact ⟨⟨b, by rw [reFloor_heap]; exact b1, b2⟩, by rw [reFloor_floor]; exact m.lt, m.nod⟩
theorem MapB.read {h : H} {id : B} {E : En} (m : MapB h id E) : ∃ cur size fr, ∀ k, mapK h id k = k h.next h.floor h.heap cur (cur + 7) size fr (toP E) := by
  obtain ⟨⟨cur, min, size, cells, n, fr⟩, h1, h2, h4⟩ := m.blk
  obtain ⟨next, floor, heap⟩ := h
  simp only at h2 h4
  subst h2
  refine ⟨cur, size, fr, fun k => ?_⟩
  have h1' : heap.get id = some ⟨cur, cur + 7, size, cells, n, fr⟩ := h1
  have e7 : Nat.beq (cur + 7) (cur + 7) = true := Nat.beq_refl _
  simp only [mapK, hK_mk, h1', optK_some, blkK_mk, e7, ifK_true]
  exact getP_fine n cells 0 (toP E) h4.1 (fun i kv hi => by simpa using h4.2 i kv hi) _
theorem MapB.ln {P : Program} {h : H} {N : Nx} {id : B} {E : En} (m : MapB h id E) : MLn P (.m id) h N = N.go P (.i .i64 (E.length : Int)) h := hv_of fun q => by
  obtain ⟨cur, size, fr, hr⟩ := m.read
  show mapK _ id _ = _
  rw [hr]
  show q (.i .i64 (.ofNat (toP E).length)) = _
  rw [toP_len]; rfl
def MpB (h : H) (v : V) (E : En) : Prop := (v = .m0 ∧ E = []) ∨ ∃ id, v = .m id ∧ MapB h id E
theorem _root_.Go.Ev.MpV.b {h : H} {v : V} {E : En} (m : MpV h v E) : MpB h v E := m.imp id fun ⟨i, e, m⟩ => ⟨i, e, m.b⟩
theorem used_ok {h : H} {s idm : B} {f : Nat} {rm lo : V} {E : En} (r : Row h s 0 0 [rm, .m idm, lo]) (hf : 3 ≤ f) (m : MapB h idm E) (hE : ∀ p ∈ E, IsSl p.2) (hl : usedE E ≤ 9223372036854775807) :
    FnOk Tryz.prog 193 [.p s 0 0 f] h fun y h' => y = .i .i64 (usedE E : Int) ∧ h' = h := by
  refine FnN.pure ?_ (fun _ _ _ h => h)
  have r' := row_re r
  have m' := m.mf
  have hfl : B.val (reFloor h).floor ≤ B.val (reFloor h).next := by rw [reFloor_floor, reFloor_next]; exact Nat.le_refl _
  generalize reFloor h = g0 at r' m' hfl ⊢
  refine fn_so cs193 (by decide) (by simp) (by simp) fun Q hQ => ?_
  simp only [slotsF, Nat.reduceAdd]
  refine OkS.seq (OkS.cc ?_)
  repeat' (first
    | refine St.h ?_
    | simp (disch := first | omega | (simp only [lnv]; omega)) only [wlk, ↓get_put', ↓reduceIte, seval, sqs_n]
    | (with_reducible (first | apply cd_split | apply gd_split)) <;> (intro hc; (try simp only [hcn] at hc); (try simp only [hc]); (try simp only [hcl] at hc); try omega))
  refine OkS.seq (OkS.cc ?_)
  repeat' (first
    | refine St.h ?_
    | simp (disch := first | omega | (simp only [lnv]; omega)) only [wlk, ↓get_put', ↓reduceIte, seval, sqs_n]
    | (with_reducible (first | apply cd_split | apply gd_split)) <;> (intro hc; (try simp only [hcn] at hc); (try simp only [hc]); (try simp only [hcl] at hc); try omega))
  refine OkS.seq (OkS.rngF (wo_gen fun K hK => ?_))
  dsimp only [r193_0]
  simp (disch := first | omega | (simp only [lnv]; omega)) only [wlk, ↓get_put', ↓reduceIte, seval, r'.l1]
  subst hK
  refine ⟨idm, E, fun idI vis t g => get 10 t = .p idI 0 0 0 ∧ get 3 t = .i .i64 (usedE vis : Int), fun x t' g => x = .normal ∧ get 3 t' = .i .i64 (usedE E : Int), ?_, m', ?_, ⟨fun h => h.1, fun h _ _ => h, ?_, ?_⟩, ?_⟩
  · show get 9 _ = _
    simp (disch := first | omega | (simp only [lnv]; omega)) only [wlk, ↓get_put', ↓reduceIte, seval]
  · intro g st hn
    exact ⟨by simp (disch := first | omega | (simp only [lnv]; omega)) only [wlk, ↓get_put', ↓reduceIte, seval], by simp (disch := first | omega | (simp only [lnv]; omega)) only [wlk, ↓get_put', ↓reduceIte, seval]; rfl⟩
  · intro idI vis t g hI hv ha
    refine wo_gen fun K hK => ?_
    simp (disch := first | omega | (simp only [lnv]; omega)) only [wlk, ↓get_put', ↓reduceIte, seval]
    subst hK
    refine ⟨?_, Stay.refl _ _, rfl, ?_⟩
    · show get 12 _ = _
      simp (disch := first | omega | (simp only [lnv]; omega)) only [wlk, ↓get_put', ↓reduceIte, seval]
    · simp (disch := first | omega | (simp only [lnv]; omega)) only [wlk, ↓get_put', ↓reduceIte, seval, hI.2]
      rw [usedE_perm (VisOk.perm m'.nod hv ha)]
  · intro idI vis t g k v hI hv hin hk
    have hsl := hE _ hin
    refine wo_gen fun K hK => ?_
    simp (disch := first | omega | (simp only [lnv]; omega)) only [wlk, ↓get_put', ↓reduceIte, seval]
    subst hK
    refine ⟨?_, ?_, Stay.refl _ _, ?_⟩
    · show get 12 _ = _
      simp (disch := first | omega | (simp only [lnv]; omega)) only [wlk, ↓get_put', ↓reduceIte, seval]
    · simp (disch := first | omega | (simp only [lnv]; omega)) only [wlk, ↓get_put', ↓reduceIte, seval, hI.1]
    · refine wo_gen fun K hK => ?_
      simp (disch := first | omega | (simp only [lnv]; omega)) only [wlk, ↓get_put', ↓reduceIte, seval]
      subst hK
      refine ⟨Stay.refl _ _, OkS.cc ?_⟩
      have h1 := sum_le_of_visok (E := E) (vis := vis ++ [(k, v)]) ⟨fun p hp => by
        rcases List.mem_append.1 hp with hp | hp
        · exact hv.1 p hp
        · rw [List.mem_singleton] at hp; rw [hp]; exact hin, by
        have : keysE (vis ++ [(k, v)]) = keysE vis ++ [k] := by simp [keysE]
        rw [this, List.nodup_append]
        exact ⟨hv.2, by simp, fun a ha b hb e => hk (by rw [List.mem_singleton] at hb; rw [← hb, ← e]; exact ha)⟩⟩
      rw [usedE_app] at h1
      repeat' (first
        | refine St.h ?_
        | simp (disch := first | omega | (simp only [lnv]; omega)) only [wlk, ↓get_put', ↓reduceIte, seval, hI.2, hsl.ln]
        | (with_reducible (first | apply cd_split | apply gd_split)) <;> (intro hc; (try simp only [hcn] at hc); (try simp only [hc]); (try simp only [hcl] at hc); try omega))
      refine ⟨Stay.refl _ _, ?_⟩
      show _ ∧ _
      refine ⟨by simp (disch := first | omega | (simp only [lnv]; omega)) only [wlk, ↓get_put', ↓reduceIte, seval, hI.1], ?_⟩
      rw [usedE_app]
      simp (disch := first | omega | (simp only [lnv]; omega)) only [wlk, ↓get_put', ↓reduceIte, seval]
      rfl
  · rintro x t' g ⟨rfl, e⟩ _
    rw [sqs_n]
    refine OkS.cc ?_
    repeat' (first
      | refine St.h ?_
      | simp (disch := first | omega | (simp only [lnv]; omega)) only [wlk, ↓get_put', ↓reduceIte, seval, e]
      | (with_reducible (first | apply cd_split | apply gd_split)) <;> (intro hc; (try simp only [hcn] at hc); (try simp only [hc]); (try simp only [hcl] at hc); try omega))
    subst hQ
    rfl
theorem used_nil {h : H} {s : B} {f : Nat} {rm lo : V} (r : Row h s 0 0 [rm, .m0, lo]) (hf : 3 ≤ f) :
    FnOk Tryz.prog 193 [.p s 0 0 f] h fun y h' => y = .i .i64 0 ∧ h' = h := by
  refine FnN.pure ?_ (fun _ _ _ h => h)
  have r' := row_re r
  generalize reFloor h = g0 at r' ⊢
  refine fn_so cs193 (by decide) (by simp) (by simp) fun Q hQ => ?_
  simp only [slotsF, Nat.reduceAdd]
  refine OkS.seq (OkS.cc ?_)
  repeat' (first
    | refine St.h ?_
    | simp (disch := first | omega | (simp only [lnv]; omega)) only [wlk, ↓get_put', ↓reduceIte, seval, sqs_n]
    | (with_reducible (first | apply cd_split | apply gd_split)) <;> (intro hc; (try simp only [hcn] at hc); (try simp only [hc]); (try simp only [hcl] at hc); try omega))
  refine OkS.seq (OkS.cc ?_)
  repeat' (first
    | refine St.h ?_
    | simp (disch := first | omega | (simp only [lnv]; omega)) only [wlk, ↓get_put', ↓reduceIte, seval, sqs_n]
    | (with_reducible (first | apply cd_split | apply gd_split)) <;> (intro hc; (try simp only [hcn] at hc); (try simp only [hc]); (try simp only [hcl] at hc); try omega))
  refine OkS.seq (OkS.rng0 (wo_gen fun K hK => ?_))
  dsimp only [r193_0]
  simp (disch := first | omega | (simp only [lnv]; omega)) only [wlk, ↓get_put', ↓reduceIte, seval, r'.l1]
  subst hK
  refine ⟨?_, wo_gen fun K hK => ?_⟩
  · show get 9 _ = _
    simp (disch := first | omega | (simp only [lnv]; omega)) only [wlk, ↓get_put', ↓reduceIte, seval]
  simp (disch := first | omega | (simp only [lnv]; omega)) only [wlk, ↓get_put', ↓reduceIte, seval]
  subst hK
  refine ⟨?_, ?_⟩
  · show get 12 _ = _
    simp (disch := first | omega | (simp only [lnv]; omega)) only [wlk, ↓get_put', ↓reduceIte, seval]
  · rw [sqs_n]
    refine OkS.cc ?_
    repeat' (first
      | refine St.h ?_
      | simp (disch := first | omega | (simp only [lnv]; omega)) only [wlk, ↓get_put', ↓reduceIte, seval]
      | (with_reducible (first | apply cd_split | apply gd_split)) <;> (intro hc; (try simp only [hcn] at hc); (try simp only [hc]); (try simp only [hcl] at hc); try omega))
    subst hQ
    rfl
end
end Go.Proofs.YtiokhkainaodnaaGreatDoor

set_option linter.all false
namespace Go.Ev
open Go
/-- a block of cells that lies there already comes to be known as a new one -/
theorem adopt_ok {el : Nat} {cs : List V} {h : H} {k : B → H → Bool} (hk : alloc el cs h k = true) :
    ∃ h', (∀ k', alloc el cs h k' = k' h.next h') ∧ KeepF h h' ∧ B.val h.next ≤ B.val h'.next ∧
      ∀ ρ w w0 (c : Array Value) (b0 cap : Nat) (fz : Nat × Nat), HRel ρ h w w0 → w.heap[b0]? = some (.cells c el fz) → fz.1 = fz.2 → (∀ id g L, ρ id g = some L → L.b ≠ b0) → w0.heap.size ≤ b0 → cs.length ≤ c.size → c.size = cap → (∀ (i : Nat) v x, cs[i]? = some v → c[i]? = some x → VRel ρ v x) →
        ∃ ρ', Ext h.floor ρ ρ' ∧ ρ' h.next 0 = some ⟨b0, 0, cs.length, cap, none⟩ ∧ (∀ id g L, ρ' id g = some L → L.b = b0 ∨ ρ id g = some L) ∧ HRel ρ' h' w w0 := by
  obtain ⟨next, floor, heap⟩ := h
  have e : ∀ k', alloc el cs ⟨next, floor, heap⟩ k' = setList cs 0 .o fun t => T.setK next ⟨0, 0, cs.length, t, el, 0⟩ heap fun heap => B.incK next fun next' => k' next ⟨next', floor, heap⟩ := by
    intro k'; simp only [alloc, hK_mk, fN_eq]
  rw [e] at hk
  obtain ⟨t, h1, h2, h3⟩ := setList_ok _ _ _ _ hk
  obtain ⟨hp, h4, h5, h6⟩ := setK_ok next (⟨0, 0, cs.length, t, el, 0⟩ : Blk) heap
  obtain ⟨nx, h7, h8⟩ := incK_ok next
  refine ⟨⟨nx, floor, hp⟩, fun k' => by rw [e, h1, h4, h7], ⟨rfl, fun hf id hid => h6 id (fun e => by rw [e] at hid; exact absurd hf (Nat.not_le.2 hid))⟩, by show B.val next ≤ B.val nx; omega, fun ρ w w0 c b0 cap fz R hb0 hfz hu h00 hl hcap hv => ?_⟩
  have hnone : ρ next 0 = none := by
    cases hr : ρ next 0 with
    | none => rfl
    | some L => have := R.ids _ _ _ hr; exact absurd this (Nat.lt_irrefl _)
  have hne : ∀ id g L, ρ id g = some L → ¬ (id = next) := fun id g L hr he => by
    have := R.ids _ _ _ hr; rw [he] at this; exact absurd this (Nat.lt_irrefl _)
  have hle := Emb.put_le ⟨b0, 0, cs.length, cap, none⟩ hnone
  have hcase : ∀ {id g L}, ρ.put next 0 ⟨b0, 0, cs.length, cap, none⟩ id g = some L → (id = next ∧ g = 0 ∧ L = ⟨b0, 0, cs.length, cap, none⟩) ∨ ρ id g = some L := by
    intro id g L hL
    by_cases e : id = next ∧ g = 0
    · left; obtain ⟨rfl, rfl⟩ := e; rw [Emb.put_same] at hL; exact ⟨rfl, rfl, (Option.some.inj hL).symm⟩
    · right; rwa [Emb.put_other _ _ _ _ e] at hL
  refine ⟨ρ.put next 0 ⟨b0, 0, cs.length, cap, none⟩, Ext.put hnone R.flo, Emb.put_same _ _ _ _, fun id g L hL => (hcase hL).imp (fun e => by rw [e.2.2]) (fun e => e), ?_⟩
  constructor
  · intro id g L hL
    rcases hcase hL with ⟨rfl, rfl, rfl⟩ | hL
    · refine ⟨_, h5, Nat.le_refl _, (Array.getElem?_eq_some_iff.1 hb0).1, Nat.zero_le _, fun _ => Nat.le_refl _, fun _ => rfl, fun _ => ⟨c, el, ⟨rfl, fz, hb0, hfz⟩, hcap, by show cs.length - 0 ≤ cap; omega, fun i _ hi => ?_⟩⟩
      have hi' : i < cs.length := hi
      have hx : ∃ x, c[i]? = some x := ⟨c[i]'(by omega), by simp⟩
      obtain ⟨x, hx⟩ := hx
      have hvi : cs[i]? = some cs[i] := by simp [hi']
      refine ⟨cs[i], x, ?_, by simpa using hx, VRel.up hle _ _ (hv i _ _ hvi hx)⟩
      have := h2 i _ hvi
      simpa using this
    · obtain ⟨blk, a1, a2, a3, a4, a5, a6, a7⟩ := R.loc _ _ _ hL
      refine ⟨blk, (h6 id (hne _ _ _ hL)).trans a1, a2, a3, a4, a5, a6, fun hm => ?_⟩
      obtain ⟨c', el', b1, b2, b3, b4⟩ := a7 hm
      refine ⟨c', el', b1, b2, b3, fun i i1 i2 => ?_⟩
      obtain ⟨v, x, d1, d2, d3⟩ := b4 i i1 i2
      exact ⟨v, x, d1, d2, VRel.up hle _ _ d3⟩
  · intro id g L hL
    show B.val id < B.val nx
    rcases hcase hL with ⟨rfl, rfl, rfl⟩ | hL
    · rw [h8]; exact Nat.lt_succ_self _
    · have : B.val id < B.val next := R.ids _ _ _ hL
      rw [h8]; omega
  · intro id g L id' g' L' hL hL' hb
    rcases hcase hL with ⟨i1, i2, i3⟩ | hM <;> rcases hcase hL' with ⟨j1, j2, j3⟩ | hM'
    · exact ⟨i1.trans j1.symm, by rw [i3, j3]⟩
    · exact absurd (by rw [← hb, i3]) (hu _ _ _ hM')
    · exact absurd (by rw [hb, j3]) (hu _ _ _ hM)
    · exact R.sep _ _ _ _ _ _ hM hM' hb
  · show B.val floor ≤ B.val nx
    have : B.val floor ≤ B.val next := R.flo
    rw [h8]; omega
  · intro b hb
    exact R.old b hb
  · intro id g L hL hf
    rcases hcase hL with ⟨rfl, rfl, rfl⟩ | hL
    · exact h00
    · exact R.up _ _ _ hL hf
  · exact R.tp
  · exact R.os
  · exact R.out
  · exact R.siz
  · refine R.mp.of hle fun id L blk h1 h2' kc h3' => ?_
    rcases hcase h1 with ⟨rfl, _, _⟩ | hL
    · have : hp.get id = some blk := h2'
      rw [h5] at this
      rw [← Option.some.inj this] at h3'
      have h3' : 0 = 0 + kdN kc := h3'
      exact absurd h3' (by cases kc <;> decide)
    · obtain ⟨_, _, _, a3, _⟩ := R.loc _ _ _ hL
      exact ⟨hL, (h6 id (hne _ _ _ hL)).symm.trans h2', rfl⟩
  · refine R.ito.of fun id g L blk h1 h2' _ h3' => ?_
    rcases hcase h1 with ⟨rfl, _, _⟩ | hL
    · have : hp.get id = some blk := h2'
      rw [h5] at this
      rw [← Option.some.inj this] at h3'
      have h3' : 0 = 0 + 9 := h3'
      exact absurd h3' (by decide)
    · obtain ⟨_, _, _, a3, _⟩ := R.loc _ _ _ hL
      exact ⟨hL, (h6 id (hne _ _ _ hL)).symm.trans h2', rfl⟩
end Go.Ev

set_option maxRecDepth 100000
set_option maxHeartbeats 8000000
set_option linter.all false
namespace Go.Proofs.YtiokhkainaodnaaGreatDoor
open Go Go.Ev
open Go.RowKit Go.Shelf in
theorem sortsC (m : Nat) : AnyZ.SortsIn Tryz.prog Tryz.sorted183_ren Fence.wide m :=
  ⟨fun blk off cap ss W hH hblk hsz => callsIn_wide.2 (AnyM.slices_Sort_string Tryz.sort243 blk off cap ss W hH hblk hsz), fun p cap W => callsIn_wide.2 (AnyM.slices_Sort_string_none Tryz.sort243 p cap W)⟩
end Go.Proofs.YtiokhkainaodnaaGreatDoor

set_option maxRecDepth 100000
set_option maxHeartbeats 8000000
set_option linter.all false
namespace Go.Proofs.YtiokhkainaodnaaGreatDoor
open Go Go.Ev
theorem insert_perm {H : Type} (x : Lit × DataW H) : ∀ l, (DataW.insert x l).Perm (x :: l)
  | [] => .refl _
  | y :: r => by
    unfold DataW.insert
    split
    · exact .refl _
    · exact ((insert_perm x r).cons y).trans (.swap ..)
theorem foldr_perm {H : Type} : ∀ l : List (Lit × DataW H), (l.foldr DataW.insert []).Perm l
  | [] => .refl _
  | x :: l => (insert_perm x _).trans ((foldr_perm l).cons x)
def rNil (_ : Value) : Option (DataW Unit × List MemPlace) := some (.nil, [])
theorem sv_str {ρ : Emb} {k : List UInt8} {x : Value} (h : VRel ρ (sv k) x) : ∃ bs : ByteArray, x = .string bs ∧ bs.data.toList = k := by
  obtain ⟨b1, rfl, e1, e2, e3⟩ := srel h
  exact ⟨b1, rfl, (key_det (k := k) (k' := b1.data.toList) h (srel_mk (by simp) (by simp))).symm⟩
theorem rd_key {ρ : Emb} {k : List UInt8} {e : MapEntry} (h : VRel ρ (sv k) e.key) (hl : k.length ≤ maxLen) : Go.WideElems.rd Tryz.prog 9 rNil e = some (.string k, .nil) := by
  obtain ⟨bs, h1, h2⟩ := sv_str h
  have hs : bs.size ≤ maxLen := by
    have : bs.size = k.length := by rw [← h2]; simp
    rw [this]; exact hl
  unfold Go.WideElems.rd
  rw [h1, _root_.Go.WideMaps.keyOf_string_mk Tryz.underlying9 hs, h2]
  rfl
theorem rds_keys {ρ : Emb} : ∀ {E : En} {l : List MapEntry}, F2 ρ (toP E) l → (∀ p ∈ E, p.1.length ≤ maxLen) → l.map (Go.WideElems.rg Tryz.prog 9 rNil) = E.map (fun p => (Lit.string p.1, DataW.nil)) ∧ ∀ x ∈ l, ∃ y, Go.WideElems.rd Tryz.prog 9 rNil x = some y
  | [], _, .nil, _ => ⟨rfl, fun x h => by cases h⟩
  | p :: E, _, .cons a b c, hk => by
    obtain ⟨h1, h2⟩ := rds_keys c fun q hq => hk q (List.mem_cons_of_mem _ hq)
    have h3 := rd_key a (hk p (List.mem_cons_self ..))
    refine ⟨?_, fun x hx => ?_⟩
    · rw [List.map_cons, List.map_cons, h1]
      unfold Go.WideElems.rg
      rw [h3]; rfl
    · rcases List.mem_cons.1 hx with rfl | hx
      · exact ⟨_, h3⟩
      · exact h2 x hx
theorem ownsMap_of {ρ : Emb} {w : World} {b : Nat} {E : En} {es : Array MapEntry} {clock : Nat} (hb : w.heap[b]? = some (.map es clock)) (m : MapP ρ (toP E) es clock) (hk : ∀ p ∈ E, p.1.length ≤ maxLen) (hs : es.size ≤ maxLen) :
    ∃ D0 : DataW Unit, w.ownsMap Tryz.prog 9 rNil b es.size D0 ∧ (Go.strKeys D0).Perm (keysE E) ∧ Go.Maps.size D0 = E.length := by
  obtain ⟨l, l1, l2⟩ := m.rel
  obtain ⟨r1, r2⟩ := rds_keys l2 hk
  have p1 : ((es.toList.map (Go.WideElems.rg Tryz.prog 9 rNil)).foldr DataW.insert []).Perm (E.map (fun p => (Lit.string p.1, DataW.nil))) := by
    rw [← r1]
    exact (foldr_perm _).trans (l1.symm.map _)
  refine ⟨_, ⟨es, clock, hb, ⟨hs, m.st, fun x hx => r2 x (l1.mem_iff.2 hx)⟩, Nat.le_refl _, rfl⟩, ?_, ?_⟩
  · have := p1.map (fun p => Go.strOf p.1)
    refine this.trans ?_
    rw [List.map_map]
    exact .refl _
  · have := p1.length_eq
    rw [List.length_map] at this
    exact this
end Go.Proofs.YtiokhkainaodnaaGreatDoor

set_option linter.all false
namespace Go.Ev
open Go
section
variable {h : H}
/-- all cells of a block at once -/
theorem ST.ownAll {P : Program} {N : Nx} {id : B} {xs vs : List V} {x : V} {size fin : Nat} (o : Own h id xs) (hc : cells x = vs) (hs : vs.length = size) (h1 : allOne vs = true) (hj : vs.length ≤ fin) (hfit : vs.length < 2 ^ 37)
    (k : ∀ h', Own h' id vs → Stay (fun i => i = id) h h' → N.go P (.tu []) h') : ST P size (.p id 0 0 fin) x h N := by
  obtain ⟨blk, a1, a2, a3, a4, a5, a6, a7⟩ := o
  obtain ⟨next, floor, heap⟩ := h
  obtain ⟨cur, min, sz, cs, bel, fr⟩ := blk
  simp only at a2 a3 a4 a7
  subst a2; subst a3; subst a4
  obtain ⟨tr, t1, t2, t3⟩ := setList_fine vs 0 cs (by omega)
  obtain ⟨hp, s1, s2, s3⟩ := setK_ok id (⟨0, 0, sz, tr, bel, 0⟩ : Blk) heap
  have e1 : B.geB floor id = true := by cases floor <;> first | rfl | (show Nat.ble _ _ = true; rw [Nat.ble_eq]; exact a5)
  have e2 : Nat.ble (Nat.add 0 vs.length) fin = true := by rw [Nat.ble_eq]; show 0 + vs.length ≤ fin; omega
  have e4 : frOk 0 0 = true := rfl
  have e5 : Nat.beq 0 0 = true := rfl
  have e6 : Nat.ble 0 0 = true := rfl
  have e7 : Nat.beq vs.length size = true := by rw [hs]; simp
  have a1' : heap.get id = some ⟨0, 0, sz, cs, bel, 0⟩ := a1
  refine hm_of (v := .tu []) (h' := ⟨next, floor, hp⟩) (fun q => ?_) (k _ ⟨_, s2, rfl, rfl, rfl, a5, a6, fun i z hz => by have := t2 i z hz; rwa [Nat.zero_add] at this⟩ ⟨rfl, Nat.le_refl _, fun i _ hi => s3 i hi⟩)
  show ifK (Nat.beq (cells x).length size) (fun _ => store ⟨next, floor, heap⟩ id 0 0 fin (cells x) fun h => q (.tu []) h) = _
  rw [hc, e7, ifK_true]
  simp only [store, hK_mk, a1', optK_some, blkK_mk, e5, e6, e1, e2, h1, e4, ifK_true]
  rw [t1, s1]
end
theorem ST.all {P : Program} {h : H} {N : Nx} {id : B} {xs vs : List V} {size fin : Nat} (o : Own h id xs) (hs : vs.length = size) (h1 : allOne vs = true) (hj : vs.length ≤ fin) (hfit : vs.length < 2 ^ 37)
    (k : ∀ h', Own h' id vs → Stay (fun i => i = id) h h' → N.go P (.tu []) h') : ST P size (.p id 0 0 fin) (.a vs) h N := ST.ownAll o rfl hs h1 hj hfit k
theorem re_fl (h : H) : B.val (reFloor h).floor ≤ B.val (reFloor h).next := by cases h; exact Nat.le_refl _
/-- a row of structs of n cells each -/
def Ss {α : Type} (n : Nat) (c : α → List V) (h : H) (v : V) (L : List α) : Prop :=
  (v = .l0 ∧ L = []) ∨ ∃ id g off fin cap, v = .l id g off L.length fin cap ∧ off + L.length * n ≤ fin ∧ B.val id < B.val h.next ∧ Row h id g off (L.flatMap c)
section
variable {α : Type} [Inhabited α] {n : Nat} {c : α → List V}
theorem fm_len (hc : ∀ e, (c e).length = n) : ∀ (L : List α), (L.flatMap c).length = L.length * n
  | [] => by simp
  | a :: L => by rw [List.flatMap_cons, List.length_append, hc, fm_len hc L, List.length_cons, Nat.add_mul]; omega
theorem fm_at (hc : ∀ e, (c e).length = n) : ∀ {L : List α} {i : Nat}, i < L.length → ((L.flatMap c).drop (i * n)).take n = c (L.getD i default)
  | [], i, h => by simp at h
  | a :: L, 0, h => by
    rw [List.flatMap_cons, Nat.zero_mul, List.drop_zero, List.take_append_of_le_length (by rw [hc]; exact Nat.le_refl _), List.take_of_length_le (by rw [hc]; exact Nat.le_refl _)]; rfl
  | a :: L, i + 1, h => by
    have e : (i + 1) * n = (c a).length + i * n := by rw [hc, Nat.add_mul]; omega
    rw [List.flatMap_cons, e, ← List.drop_drop, List.drop_left, fm_at hc (by simpa using h)]
    simp [List.getD]
theorem fm_get (hc : ∀ e, (c e).length = n) {L : List α} {i d : Nat} (hi : i < L.length) (hd : d < n) : (L.flatMap c)[i * n + d]? = some ((c (L.getD i default)).getD d .u) := by
  have e : (((L.flatMap c).drop (i * n)).take n)[d]? = (c (L.getD i default))[d]? := by rw [fm_at hc hi]
  rw [List.getElem?_take, if_pos hd, List.getElem?_drop] at e
  rw [e]
  have : d < (c (L.getD i default)).length := by rw [hc]; exact hd
  have e3 : ∀ (x : List V), d < x.length → x[d]? = some (x.getD d .u) := fun x hx => by simp [List.getD, hx]
  exact e3 _ this
theorem fm_take (hc : ∀ e, (c e).length = n) : ∀ (L : List α) (k : Nat), (L.take k).flatMap c = (L.flatMap c).take (k * n)
  | [], k => by simp
  | a :: L, 0 => by simp
  | a :: L, k + 1 => by
    have e : (k + 1) * n = (c a).length + k * n := by rw [hc, Nat.add_mul]; omega
    have e2 : ((c a) ++ L.flatMap c).take ((c a).length + k * n) = c a ++ (L.flatMap c).take (k * n) := by
      rw [List.take_append, Nat.add_sub_cancel_left, List.take_of_length_le (Nat.le_add_right _ _)]
    rw [List.take_succ_cons, List.flatMap_cons, List.flatMap_cons, fm_take hc L k, e, e2]
theorem fm_drop (hc : ∀ e, (c e).length = n) : ∀ (L : List α) (k : Nat), (L.drop k).flatMap c = (L.flatMap c).drop (k * n)
  | [], k => by simp
  | a :: L, 0 => by simp
  | a :: L, k + 1 => by
    rw [List.drop_succ_cons, List.flatMap_cons, fm_drop hc L k, show (k + 1) * n = (c a).length + k * n by rw [hc, Nat.add_mul]; omega, ← List.drop_drop, List.drop_left]
variable {P : Program} {h h' g' : H} {N : Nx} {v : V} {L : List α} {i d : Nat}
theorem Ss.ix (a : Ss n c h v L) (hi : i < L.length) : IX P n v i g' N = N.go P (.p (lid v) (lg v) (loff v + i * n) (lfin v)) g' := by
  rcases a with ⟨rfl, rfl⟩ | ⟨id, g, off, fin, cap, rfl, _⟩
  · simp at hi
  · exact ix_l hi
theorem Ss.ld (a : Ss n c h v L) (hc : ∀ e, (c e).length = n) (hi : i < L.length) (hd : d < n) : L1 P (lid v) (lg v) (loff v + i * n + d) (lfin v) h N = N.go P ((c (L.getD i default)).getD d .u) h := by
  rcases a with ⟨rfl, rfl⟩ | ⟨id, g, off, fin, cap, rfl, hf, hl, r⟩
  · simp at hi
  · refine hv_of fun k => ?_
    have := r.2 (i * n + d) _ (fm_get hc hi hd)
    rw [← Nat.add_assoc] at this
    have h1 : (i + 1) * n ≤ L.length * n := Nat.mul_le_mul_right n hi
    rw [Nat.add_mul] at h1
    exact load1_cell this (by show off + i * n + d < fin; omega) k
theorem Ss.ldA (a : Ss n c h v L) (hc : ∀ e, (c e).length = n) (hn : 1 ≤ n) (hi : i < L.length) : LN P (lid v) (lg v) (loff v + i * n) (lfin v) n h N = N.go P (.a (c (L.getD i default))) h := by
  rcases a with ⟨rfl, rfl⟩ | ⟨id, g, off, fin, cap, rfl, hf, hl, r⟩
  · simp at hi
  · refine hv_of fun k => ?_
    have h1 : (i + 1) * n ≤ L.length * n := Nat.mul_le_mul_right n hi
    rw [Nat.add_mul] at h1
    have hlen := hc (L.getD i default)
    refine loadN_row (vs := c (L.getD i default)) ⟨fun _ => r.1 ?_, fun j y hy => ?_⟩ hlen (by intro e; rw [e] at hlen; simp at hlen; omega) (by show off + i * n + n ≤ fin; omega) fun vs => k (.a vs)
    · intro e
      have h2 := fm_len hc L
      rw [e] at h2
      have h3 : L.length * n = 0 := h2.symm
      omega
    · have hj : j < n := by rw [← hlen]; exact (List.getElem?_eq_some_iff.1 hy).1
      have e := fm_get hc hi hj
      rw [List.getD, hy] at e
      have := r.2 (i * n + j) _ e
      rw [← Nat.add_assoc] at this
      exact this
theorem Ss.grow (a : Ss n c h v L) (s : Stay nowhere h h') : Ss n c h' v L := by
  rcases a with ⟨rfl, rfl⟩ | ⟨id, g, off, fin, cap, rfl, hf, hl, r⟩
  · exact .inl ⟨rfl, rfl⟩
  · exact .inr ⟨id, g, off, fin, cap, rfl, hf, Nat.lt_of_lt_of_le hl s.next, r.grow s hl⟩
theorem Ss.stay {p : B → Prop} (a : Ss n c h v L) (s : Stay p h h') (hp : ∀ id, isOf v id → ¬ p id) : Ss n c h' v L := by
  rcases a with ⟨rfl, rfl⟩ | ⟨id, g, off, fin, cap, rfl, hf, hl, r⟩
  · exact .inl ⟨rfl, rfl⟩
  · exact .inr ⟨id, g, off, fin, cap, rfl, hf, Nat.lt_of_lt_of_le hl s.next, r.stay s hl (hp id ⟨_, _, _, _, _, rfl⟩)⟩
theorem Ss.nil : Ss n c h .l0 ([] : List α) := .inl ⟨rfl, rfl⟩
/-- of a literal -/
theorem Ss.lit {id : B} {xs : List V} {cap : Option Nat} {len fin : Nat} (o : Own h id xs) (e : xs = L.flatMap c) (hc : ∀ e, (c e).length = n) (hl : len = L.length) (hf : L.length * n ≤ fin) : Ss n c h (.l id 0 0 len fin cap) L := by
  subst hl; subst e
  have r := o.row
  obtain ⟨blk, h1, h2, h3, h4, h5, h6, h7⟩ := o
  exact .inr ⟨id, 0, 0, fin, cap, rfl, by omega, h6, r⟩
/-- of a row that grew -/
theorem Ss.buf {el : Nat} {xs : List V} (b : Buf h el n v xs) (e : xs = L.flatMap c) (hc : ∀ e, (c e).length = n) (hn : 1 ≤ n) : Ss n c h v L := by
  subst e
  rcases b with ⟨rfl, he⟩ | ⟨id, g, m, blk, rfl, h1, h2, h3, h4, h5, h6, h7, h8, h9, h10⟩
  · refine .inl ⟨rfl, ?_⟩
    cases L with
    | nil => rfl
    | cons a L =>
      have := fm_len hc (a :: L)
      rw [he] at this
      have h3 : (L.length + 1) * n = 0 := this.symm
      rw [Nat.add_mul] at h3; omega
  · have hm : m = L.length := by
      rw [fm_len hc] at h2
      exact (Nat.eq_of_mul_eq_mul_right (by omega) h2).symm
    subst hm
    refine .inr ⟨id, g, 0, (L.flatMap c).length, none, rfl, by rw [fm_len hc]; omega, h4, fun _ => ⟨blk, h5, h6.1⟩, fun i y hy => ?_⟩
    unfold Ev.cell cellB
    rw [h5]
    show (if blk.min ≤ g then blk.cells.getN (0 + i) else none) = _
    rw [if_pos h6.1, Nat.zero_add]
    exact h10 i y hy
/-- a slice whose end is where it should be -/
def SwN (n : Nat) (v : V) : Prop := v = .l0 ∨ ∃ id g off m fin cap, v = .l id g off m fin cap ∧ match cap with
  | some c => m ≤ c ∧ (18446744073709551616 ≤ c → m = 0)
  | none => fin = off + m * n
theorem swn_capS {n off k L : Nat} : match capS n k L with
  | some c => k ≤ c ∧ (18446744073709551616 ≤ c → k = 0)
  | none => off + k * n = off + k * n := by
  cases k with
  | zero => (cases L with | zero => exact rfl | succ L => exact ⟨Nat.zero_le _, fun _ => rfl⟩)
  | succ k => exact rfl
theorem row_hi {id : B} {g off k : Nat} (hc : ∀ e, (c e).length = n) (r : Row h id g off (L.flatMap c)) : Row h id g off ((L.take k).flatMap c) := by
  rw [fm_take hc]
  refine ⟨fun hne => r.1 fun e => hne (by rw [e]; simp), fun i y hy => r.2 i y ?_⟩
  rw [List.getElem?_take] at hy
  split at hy
  · exact hy
  · cases hy
theorem row_lo {id : B} {g off k : Nat} (hc : ∀ e, (c e).length = n) (r : Row h id g off (L.flatMap c)) : Row h id g (off + k * n) ((L.drop k).flatMap c) := by
  rw [fm_drop hc]
  refine ⟨fun hne => r.1 fun e => hne (by rw [e]; simp), fun i y hy => ?_⟩
  rw [List.getElem?_drop] at hy
  have := r.2 _ y hy
  rwa [← Nat.add_assoc] at this
theorem Ss.hi {kd : IntKind} {k : Nat} (a : Ss n c h v L) (hc : ∀ e, (c e).length = n) (w : SwN n v) (hk : k ≤ L.length) : ∃ u, Ss n c h u (L.take k) ∧ SwN n u ∧ ∀ (g : H) (N : Nx), H2 P (slHiV n) v (.i kd (k : Int)) g N = N.go P u g := by
  have e0 : Nat.ble 0 k = true := by rw [Nat.ble_eq]; omega
  have hkn : k * n ≤ L.length * n := Nat.mul_le_mul_right n hk
  have htk : (L.take k).length = k := by rw [List.length_take]; omega
  rcases a with ⟨rfl, rfl⟩ | ⟨id, g, off, fin, cap, rfl, h2, h3, r⟩
  · have : k = 0 := by simpa using hk
    subst this
    exact ⟨.l0, .inl ⟨rfl, by simp⟩, .inl rfl, fun g N => hv_of fun k => rfl⟩
  rcases w with e | ⟨id', g', off', n', fin', cap', e, hw⟩
  · cases e
  cases e
  cases cap with
  | none =>
    have hw : fin = off + L.length * n := hw
    refine ⟨.l id g off k (off + k * n) (capS n k L.length), .inr ⟨id, g, off, off + k * n, capS n k L.length, by rw [htk], by rw [htk]; exact Nat.le_refl _, h3, row_hi hc r⟩, .inr ⟨_, _, _, _, _, _, rfl, swn_capS⟩, fun g0 N => hv_of fun q => ?_⟩
    have e1 : Nat.ble k L.length = true := by rw [Nat.ble_eq]; exact hk
    have e2 : Nat.beq fin (Nat.add off (Nat.mul L.length n)) = true := by rw [hw]; exact Nat.beq_refl _
    unfold slHiV
    simp only [vL_l, vI_i, natK_cast, e0, ifK_true]
    show sliceN n id g off L.length fin 0 k q = _
    unfold sliceN
    rw [e1, ifK_true, e2, ifK_true, fN_eq, fN_eq, fN_eq]
    show q (.l id g (off + 0 * n) (k - 0) (off + k * n) (capS n k L.length)) = _
    simp
  | some cc =>
    have hw2 : 18446744073709551616 ≤ cc → L.length = 0 := hw.2
    have hw : L.length ≤ cc := hw.1
    have e1 : Nat.ble k cc = true := by rw [Nat.ble_eq]; omega
    cases hfc : flagB cc with
    | true =>
      have hcc := flagB_t hfc
      have hx := hw2 hcc
      have hk0 : k = 0 := by omega
      subst hk0
      refine ⟨.l id g off 0 off (some cc), .inr ⟨id, g, off, off, some cc, by simp, by simp, h3, row_hi hc r⟩, .inr ⟨_, _, _, _, _, _, rfl, Nat.zero_le _, fun _ => rfl⟩, fun g0 N => hv_of fun q => ?_⟩
      unfold slHiV
      simp only [vL_l, vI_i, natK_cast, e0, ifK_true]
      show boolK (flagB cc) (fun _ => ifK (Nat.beq 0 0) fun _ => q (.l id g off 0 off (some cc))) _ = _
      rw [hfc]; rfl
    | false =>
    have hcM := flagB_f hfc
    cases cc with
    | zero =>
      have hx : L.length = 0 := by omega
      have hk0 : k = 0 := by omega
      subst hk0
      refine ⟨.l id g off 0 fin (some 0), .inr ⟨id, g, off, fin, some 0, by simp, by simp; omega, h3, row_hi hc r⟩, .inr ⟨_, _, _, _, _, _, rfl, Nat.le_refl _, fun _ => rfl⟩, fun g0 N => hv_of fun q => ?_⟩
      unfold slHiV
      simp only [vL_l, vI_i, natK_cast, e0, ifK_true]
      rfl
    | succ cc =>
      refine ⟨.l id g off k fin (some (cc + 1)), .inr ⟨id, g, off, fin, some (cc + 1), by rw [htk], by rw [htk]; omega, h3, row_hi hc r⟩, .inr ⟨_, _, _, _, _, _, rfl, by show k ≤ cc + 1; omega, fun h => absurd hcM (Nat.not_lt.2 h)⟩, fun g0 N => hv_of fun q => ?_⟩
      unfold slHiV
      simp only [vL_l, vI_i, natK_cast, e0, ifK_true]
      show boolK (flagB (cc + 1)) _ (fun _ => sliceC n id g off L.length fin (cc + 1) 0 k fun v => q v) = _
      rw [hfc, boolK_false, sliceC_mid hcM (by omega) (by omega)]
      simp
theorem Ss.mid {kd kd' : IntKind} {j k : Nat} (a : Ss n c h v L) (hc : ∀ e, (c e).length = n) (w : SwN n v) (hj : j ≤ k) (hk : k ≤ L.length) : ∃ u, Ss n c h u ((L.take k).drop j) ∧ SwN n u ∧ ∀ (g : H) (N : Nx), H3 P (slBoV n) v (.i kd (j : Int)) (.i kd' (k : Int)) g N = N.go P u g := by
  have e0 : Nat.ble j k = true := by rw [Nat.ble_eq]; omega
  have hkn : k * n ≤ L.length * n := Nat.mul_le_mul_right n hk
  have hjn : j * n + (k - j) * n = k * n := by rw [← Nat.add_mul]; congr 1; omega
  have htk : ((L.take k).drop j).length = k - j := by rw [List.length_drop, List.length_take]; omega
  rcases a with ⟨rfl, rfl⟩ | ⟨id, g, off, fin, cap, rfl, h2, h3, r⟩
  · obtain rfl : k = 0 := by simpa using hk
    obtain rfl : j = 0 := by omega
    exact ⟨.l0, .inl ⟨rfl, by simp⟩, .inl rfl, fun g N => hv_of fun k => rfl⟩
  rcases w with e | ⟨id', g', off', n', fin', cap', e, hw⟩
  · cases e
  cases e
  have hr := row_lo hc (row_hi (k := k) hc r) (k := j)
  cases cap with
  | none =>
    have hw : fin = off + L.length * n := hw
    refine ⟨.l id g (off + j * n) (k - j) (off + k * n) (capS n k L.length), .inr ⟨id, g, off + j * n, off + k * n, capS n k L.length, by rw [htk], by rw [htk]; omega, h3, hr⟩, .inr ⟨_, _, _, _, _, _, rfl, ?_⟩, fun g0 N => hv_of fun q => ?_⟩
    · cases hk0 : k with
      | zero => (cases L.length with | zero => (show _ = _; rw [hk0] at hjn; omega) | succ l => exact ⟨by omega, fun _ => by omega⟩)
      | succ m => (show _ = _; rw [← hk0]; omega)
    have e1 : Nat.ble k L.length = true := by rw [Nat.ble_eq]; exact hk
    have e2 : Nat.beq fin (Nat.add off (Nat.mul L.length n)) = true := by rw [hw]; exact Nat.beq_refl _
    unfold slBoV
    simp only [vL_l, vI_i, natK_cast, e0, ifK_true]
    show sliceN n id g off L.length fin j k q = _
    unfold sliceN
    rw [e1, ifK_true, e2, ifK_true, fN_eq, fN_eq, fN_eq]
    rfl
  | some cc =>
    have hw2 : 18446744073709551616 ≤ cc → L.length = 0 := hw.2
    have hw : L.length ≤ cc := hw.1
    cases hfc : flagB cc with
    | true =>
      have hcc := flagB_t hfc
      have hx := hw2 hcc
      obtain rfl : k = 0 := by omega
      obtain rfl : j = 0 := by omega
      refine ⟨.l id g off 0 off (some cc), .inr ⟨id, g, off, off, some cc, by simp, by simp, h3, ?_⟩, .inr ⟨_, _, _, _, _, _, rfl, Nat.zero_le _, fun _ => rfl⟩, fun g0 N => hv_of fun q => ?_⟩
      · simpa using hr
      unfold slBoV
      simp only [vL_l, vI_i, natK_cast, e0, ifK_true]
      show boolK (flagB cc) (fun _ => ifK (Nat.beq 0 0) fun _ => q (.l id g off 0 off (some cc))) _ = _
      rw [hfc]; rfl
    | false =>
    have hcM := flagB_f hfc
    by_cases hjc : j = cc
    · have hx : k = j := by omega
      refine ⟨.l id g off 0 fin (some 0), .inr ⟨id, g, off, fin, some 0, by rw [htk, hx]; simp, by rw [htk, hx]; simp; omega, h3, ?_⟩, .inr ⟨_, _, _, _, _, _, rfl, Nat.le_refl _, fun _ => rfl⟩, fun g0 N => hv_of fun q => ?_⟩
      · rw [List.drop_eq_nil_of_le (by rw [List.length_take]; omega)]
        exact ⟨fun hne => absurd rfl hne, fun i v hv => by simp at hv⟩
      · unfold slBoV
        simp only [vL_l, vI_i, natK_cast, e0, ifK_true]
        show boolK (flagB cc) _ (fun _ => sliceC n id g off L.length fin cc j k fun v => q v) = _
        rw [hfc, boolK_false]
        have eM : Nat.ble (Nat.succ cc) 18446744073709551616 = true := by rw [Nat.ble_eq]; exact hcM
        have e1 : Nat.ble k cc = true := by rw [Nat.ble_eq]; omega
        unfold sliceC
        rw [eM, ifK_true]
        have e2 : Nat.beq j cc = true := by rw [hjc]; exact Nat.beq_refl _
        rw [e1, ifK_true, e2]; rfl
    · refine ⟨.l id g (off + j * n) (k - j) fin (some (cc - j)), .inr ⟨id, g, off + j * n, fin, some (cc - j), by rw [htk], by rw [htk]; omega, h3, hr⟩, .inr ⟨_, _, _, _, _, _, rfl, by show k - j ≤ cc - j; omega, fun h => absurd hcM (by omega)⟩, fun g0 N => hv_of fun q => ?_⟩
      unfold slBoV
      simp only [vL_l, vI_i, natK_cast, e0, ifK_true]
      show boolK (flagB cc) _ (fun _ => sliceC n id g off L.length fin cc j k fun v => q v) = _
      rw [hfc, boolK_false, sliceC_mid hcM (by omega) (by omega)]
theorem Ss.lo {kd : IntKind} {k : Nat} (a : Ss n c h v L) (hc : ∀ e, (c e).length = n) (w : SwN n v) (hk : k ≤ L.length) : ∃ u, Ss n c h u (L.drop k) ∧ SwN n u ∧ ∀ (g : H) (N : Nx), H2 P (slLoV n) v (.i kd (k : Int)) g N = N.go P u g := by
  have e0 : Nat.ble k L.length = true := by rw [Nat.ble_eq]; omega
  have hkn : k * n + (L.length - k) * n = L.length * n := by rw [← Nat.add_mul]; congr 1; omega
  have htk : (L.drop k).length = L.length - k := List.length_drop
  rcases a with ⟨rfl, rfl⟩ | ⟨id, g, off, fin, cap, rfl, h2, h3, r⟩
  · have : k = 0 := by simpa using hk
    subst this
    exact ⟨.l0, .inl ⟨rfl, by simp⟩, .inl rfl, fun g N => hv_of fun k => rfl⟩
  rcases w with e | ⟨id', g', off', n', fin', cap', e, hw⟩
  · cases e
  cases e
  cases cap with
  | none =>
    have hw : fin = off + L.length * n := hw
    refine ⟨.l id g (off + k * n) (L.length - k) (off + L.length * n) none, .inr ⟨id, g, off + k * n, off + L.length * n, none, by rw [htk], by rw [htk]; omega, h3, row_lo hc r⟩, .inr ⟨_, _, _, _, _, _, rfl, by show off + L.length * n = off + k * n + (L.length - k) * n; omega⟩, fun g0 N => hv_of fun q => ?_⟩
    have e1 : Nat.ble L.length L.length = true := by rw [Nat.ble_eq]; exact Nat.le_refl _
    have e2 : Nat.beq fin (Nat.add off (Nat.mul L.length n)) = true := by rw [hw]; exact Nat.beq_refl _
    unfold slLoV
    simp only [vL_l, vI_i, natK_cast, e0, ifK_true]
    show sliceN n id g off L.length fin k L.length q = _
    unfold sliceN
    rw [e1, ifK_true, e2, ifK_true, fN_eq, fN_eq, fN_eq, capS_self]
    rfl
  | some cc =>
    have hw2 : 18446744073709551616 ≤ cc → L.length = 0 := hw.2
    have hw : L.length ≤ cc := hw.1
    have e1 : Nat.ble L.length cc = true := by rw [Nat.ble_eq]; omega
    cases hfc : flagB cc with
    | true =>
      have hcc := flagB_t hfc
      have hx := hw2 hcc
      have hk0 : k = 0 := by omega
      subst hk0
      refine ⟨.l id g off 0 off (some cc), .inr ⟨id, g, off, off, some cc, by rw [htk, hx], by rw [htk, hx]; simp, h3, ?_⟩, .inr ⟨_, _, _, _, _, _, rfl, Nat.zero_le _, fun _ => rfl⟩, fun g0 N => hv_of fun q => ?_⟩
      · rw [List.drop_eq_nil_of_le (by omega)]
        exact ⟨fun hne => absurd rfl hne, fun i v hv => by simp at hv⟩
      · unfold slLoV
        simp only [vL_l, vI_i, natK_cast, e0, ifK_true]
        show boolK (flagB cc) (fun _ => ifK (Nat.beq L.length 0) fun _ => q (.l id g off 0 off (some cc))) _ = _
        rw [hfc, hx]; rfl
    | false =>
    have hcM := flagB_f hfc
    have eM : Nat.ble (Nat.succ cc) 18446744073709551616 = true := by rw [Nat.ble_eq]; exact hcM
    by_cases hkc : k = cc
    · have hx : L.length = k := by omega
      refine ⟨.l id g off 0 fin (some 0), .inr ⟨id, g, off, fin, some 0, by rw [htk, hx]; simp, by rw [htk, hx]; simp; omega, h3, ?_⟩, .inr ⟨_, _, _, _, _, _, rfl, Nat.le_refl _, fun _ => rfl⟩, fun g0 N => hv_of fun q => ?_⟩
      · rw [List.drop_eq_nil_of_le (by omega)]
        exact ⟨fun hne => absurd rfl hne, fun i v hv => by simp at hv⟩
      · unfold slLoV
        simp only [vL_l, vI_i, natK_cast, e0, ifK_true]
        show boolK (flagB cc) _ (fun _ => sliceC n id g off L.length fin cc k L.length fun v => q v) = _
        rw [hfc, boolK_false]
        unfold sliceC
        rw [eM, ifK_true]
        have e2 : Nat.beq k cc = true := by rw [hkc]; exact Nat.beq_refl _
        rw [e1, ifK_true, e2]; rfl
    · refine ⟨.l id g (off + k * n) (L.length - k) fin (some (cc - k)), .inr ⟨id, g, off + k * n, fin, some (cc - k), by rw [htk], by rw [htk]; omega, h3, row_lo hc r⟩, .inr ⟨_, _, _, _, _, _, rfl, by show L.length - k ≤ cc - k; omega, fun h => absurd hcM (by omega)⟩, fun g0 N => hv_of fun q => ?_⟩
      unfold slLoV
      simp only [vL_l, vI_i, natK_cast, e0, ifK_true]
      show boolK (flagB cc) _ (fun _ => sliceC n id g off L.length fin cc k L.length fun v => q v) = _
      rw [hfc, boolK_false, sliceC_mid hcM (by omega) (by omega)]
/-- the cells that are appended -/
theorem new_ss (a : Ss n c h v L) (hc : ∀ e, (c e).length = n) (hn : 1 ≤ n) (k : Nat → List V → Bool) : newCells n v h k = k L.length (L.flatMap c) := by
  rcases a with ⟨rfl, rfl⟩ | ⟨id, g, off, fin, cap, rfl, hf, hl, r⟩
  · rfl
  · have hlen := fm_len hc L
    cases hm : L.length with
    | zero =>
      have : L = [] := List.eq_nil_of_length_eq_zero hm
      subst this; rfl
    | succ m =>
      rw [hm] at hlen hf
      show loadN h id g off fin (Nat.mul (m + 1) n) (fun vs => k (m + 1) vs) = _
      have hne : L.flatMap c ≠ [] := by
        intro e; rw [e] at hlen
        have h3 : (m + 1) * n = 0 := hlen.symm
        rw [Nat.add_mul] at h3; omega
      rw [show Nat.mul (m + 1) n = (L.flatMap c).length by rw [hlen]; rfl, loadN_row r rfl hne (by rw [hlen]; omega)]
end
end Go.Ev

set_option maxRecDepth 100000
set_option maxHeartbeats 8000000
set_option linter.all false
namespace Go.Proofs.YtiokhkainaodnaaGreatDoor
open Go Go.Ev
def kC (s : List UInt8) : List V := [sv s]
def sortK (E : En) : List (List UInt8) := (keysE E).mergeSort leB
theorem map_kC : ∀ L : List (List UInt8), L.flatMap kC = L.map sv
  | [] => rfl
  | a :: L => by rw [List.flatMap_cons, map_kC L]; rfl
theorem sorted_ok {h : H} {q id : B} {E : En} (r : Row h q 0 0 [.m id]) (m : MapB h id E) (hk : ∀ p ∈ E, p.1.length ≤ 1048576) (hE : E.length ≤ 10000) (hf : B.val h.floor ≤ B.val h.next) :
    FnOk Tryz.prog 183 [.f 244 [.p q 0 0 1]] h fun y h' => Ss 1 kC h' y (sortK E) ∧ Stay nowhere h h' ∧ (∀ p, isOf y p → B.val h.next ≤ B.val p) ∧ (E = [] → y = .l0 ∧ h' = h) ∧ (E ≠ [] → y = .l h.next 0 0 E.length E.length none ∧ ∀ k, alloc 9 ((sortK E).map sv) h k = k h.next h') := by
  have main : ∀ ρ w w0 args, LRel ρ [.f 244 [.p q 0 0 1]] args → HRel ρ h w w0 →
      (callFunc 183 args.toArray).run Tryz.prog w = .ok (.enter 183 args.toArray) w ∧ Calls Tryz.prog 183 args.toArray w fun e w' => ∃ v, e = .returned v ∧
        w'.ownsRow w.heap.size 9 1 v E.length ((sortK E).map encStr) ∧ (E = [] → v = .slice none 0 0) ∧ Go.RowKit.Below w.heap.size w w' := by
    intro ρ w w0 args hl R
    obtain ⟨x, rfl, arr, rfl, hp⟩ : ∃ x, args = [x] ∧ ∃ arr, x = .func (.func 244) #[] arr ∧ LRel ρ [.p q 0 0 1] arr.toList := by
      cases args with
      | nil => cases hl
      | cons x r =>
        obtain ⟨⟨arr, h1, h2⟩, hr⟩ := hl
        cases r with
        | cons _ _ => cases hr
        | nil => exact ⟨x, rfl, arr, h1, h2⟩
    obtain ⟨L, hL, rfl, hs⟩ : ∃ L, ρ q 0 = some L ∧ arr = #[.pointer (some ⟨L.b, 0, none⟩)] ∧ L.s = 0 ∧ 1 ≤ L.e := by
      obtain ⟨al⟩ := arr
      cases al with
      | nil => cases hp
      | cons y r =>
        obtain ⟨⟨L, h1, h2, h3, h4⟩, hr⟩ := hp
        cases r with
        | cons _ _ => cases hr
        | nil =>
          have hs : L.s = 0 := by omega
          refine ⟨L, h1, ?_, hs, h4⟩
          rw [h2, hs]
    obtain ⟨v1, e1, g1⟩ := load1_ok (h := h) (id := q) (g := 0) (off := 0) (fin := 1) (k := fun _ => true) (by rw [load1_cell (r.2 0 (.m id) rfl) (by omega)])
    have ev1 : v1 = .m id := by
      have := e1 fun u => @decide (u = .m id) (Classical.propDecidable _)
      rw [load1_cell (r.2 0 (.m id) rfl) (by omega)] at this
      simp at this
      exact this
    subst ev1
    obtain ⟨x, hx, hcell⟩ := g1 ρ w w0 L R hL (by omega) hs.2
    obtain ⟨LM, hLM, rfl⟩ := hx
    obtain ⟨blk, m1, m2, m3⟩ := m.blk
    obtain ⟨es, clock, w1, ps, w2, w3⟩ := R.mp.map id LM blk hLM m1 m2
    obtain rfl := RdP.uniq w2 m3
    obtain ⟨l, l1, l2⟩ := w3.rel
    have hes : es.size = E.length := by
      have h1 := l2.length
      have h2 := l1.length_eq
      unfold toP at h1
      rw [List.length_map] at h1
      simp at h2
      omega
    obtain ⟨D0, d1, d2, d3⟩ := ownsMap_of w1 w3 (fun p hp => Nat.le_trans (hk p hp) (by decide)) (by rw [hes]; exact Nat.le_trans hE (by decide))
    have hbl : L.b < w.heap.size := by obtain ⟨_, _, _, a3, _⟩ := R.loc _ _ _ hL; exact a3
    have hseq : SeqGives Fence.wide 2 Tryz.prog 244 #[.pointer (some ⟨L.b, 0, none⟩)] encStr (fun ss => ss.Perm (strKeys D0)) (Go.Maps.size D0) w :=
      AnyZ.keys_gives (ρ := Tryz.keys184_ren) { Tryz.keys184 with } Fence.wide 2 trivial rfl (by omega) L.b LM.b es.size D0 _ hbl (by rw [hs.1] at hcell; exact hcell) d1
    have := AnyZ.sorted_in Tryz.sorted183 Fence.wide 5 trivial trivial trivial trivial rfl (by omega) (sortsC _) (enters_of Tryz.func243 (by kernel_rfl) rfl) 244 #[.pointer (some ⟨L.b, 0, none⟩)] trivial (enters_of Tryz.func244 (by kernel_rfl) rfl) _ (Go.Maps.size D0) (by rw [d3]; exact Nat.le_trans hE (by decide)) (by rw [d3]; omega) w hseq
    refine ⟨enters_of Tryz.func183 (by kernel_rfl) rfl _ _, (callsIn_wide.1 this).mono fun e w' ⟨v, ss, e1, hS, hrow, hnil, hb⟩ => ⟨v, e1, ?_, fun hE => hnil.2 ?_, hb⟩⟩
    · have hp : ss.Perm (keysE E) := hS.trans d2
      have hl : ss.length = E.length := by rw [hp.length_eq]; unfold keysE; rw [List.length_map]
      rw [hl, mergeSort_of_perm hp] at hrow
      exact hrow
    · have hp : ss.Perm (keysE E) := hS.trans d2
      rw [hE] at hp
      exact List.perm_nil.1 hp
  by_cases hz : E = []
  · subst hz
    refine ⟨.l0, h, ⟨KeepF.refl h, Nat.le_refl _, fun ρ w w0 args hl R => ?_⟩, .inl ⟨rfl, by unfold sortK; simp [keysE]⟩, Stay.refl _ _, fun p ⟨_, _, _, _, _, e⟩ => (by cases e), fun _ => ⟨rfl, rfl⟩, fun e => absurd rfl e⟩
    obtain ⟨c1, c2⟩ := main ρ w w0 args hl R
    refine ⟨c1, c2.mono fun e w' ⟨v, e1, hr, hn, hb⟩ => ⟨v, e1, ρ, Ext.refl _ ρ, hn rfl, R.grow hb.block hb.size hb.tape hb.os hb.output⟩⟩
  · obtain ⟨h', a1, a2, a3, blk, b1, b2, b3, b4, b5, b6, b7⟩ := alloc_new 9 ((sortK E).map sv) h (by rw [List.length_map]; unfold sortK; rw [List.length_mergeSort]; unfold keysE; rw [List.length_map]; omega)
    obtain ⟨h2, c1, c2, c3, c4⟩ := adopt_ok (el := 9) (cs := (sortK E).map sv) (h := h) (k := fun _ _ => true) (by rw [a1])
    have e2 : h2 = h' := by
      have := c1 fun _ u => @decide (u = h') (Classical.propDecidable _)
      rw [a1] at this
      simp at this
      exact this
    subst e2
    have hlen : (sortK E).length = E.length := by unfold sortK; rw [List.length_mergeSort]; unfold keysE; rw [List.length_map]
    have o : Ev.Own h2 h.next ((sortK E).map sv) := ⟨blk, b1, b3, b2, b6, by rw [a2.floor]; exact hf, by omega, b7⟩
    refine ⟨.l h.next 0 0 E.length E.length none, h2, ⟨c2, c3, fun ρ w w0 args hl R => ?_⟩, Ss.lit o (map_kC _).symm (fun _ => rfl) hlen.symm (by omega), a2, fun p ⟨_, _, _, _, _, e⟩ => (by cases e; exact Nat.le_refl _), fun e => absurd e hz, fun _ => ⟨rfl, c1⟩⟩
    obtain ⟨d1, d2⟩ := main ρ w w0 args hl R
    refine ⟨d1, d2.mono fun e w' ⟨v, e1, hr, _, hb⟩ => ?_⟩
    have R' := R.grow hb.block hb.size hb.tape hb.os hb.output
    rcases hr.2 with ⟨_, h0⟩ | ⟨g, cap, cur, rfl, hg, hc, hn, hcap, hsz, htk⟩
    · exact absurd (List.length_eq_zero_iff.1 h0) hz
    have hval : ∀ (i : Nat) v x, ((sortK E).map sv)[i]? = some v → cur[i]? = some x → VRel ρ v x := by
      intro i v x hv hx
      have hi : i < (sortK E).length := by
        rcases Nat.lt_or_ge i (sortK E).length with h | h
        · exact h
        · rw [List.getElem?_eq_none (by rw [List.length_map]; exact h)] at hv; cases hv
      have h1 : ((sortK E).map encStr)[i]? = some x := by
        rw [← htk, List.getElem?_take_of_lt (by rw [Nat.mul_one, ← hlen]; exact hi)]
        simpa using hx
      rw [List.getElem?_map, List.getElem?_eq_getElem hi] at h1 hv
      cases hv
      cases h1
      exact srel_mk (by simp) (by simp)
    obtain ⟨ρ', q1, q2, _, q3⟩ := c4 ρ w' w0 cur g cur.size _ R' hc rfl (fun id g' L hL e => by obtain ⟨_, _, _, a3, _⟩ := R.loc _ _ _ hL; omega) (Nat.le_trans R.siz hg) (by rw [List.length_map, hlen]; omega) rfl hval
    refine ⟨_, e1, ρ', q1, ⟨_, _, _, q2, rfl, hn, Nat.le_refl _, ?_, .inr rfl, fun d hd => (by cases hd), fun _ => .inr ⟨1, Nat.le_refl _, by omega, (by show 0 - 0 + cap * 1 ≤ cur.size; omega), fun d hd => (by cases hd)⟩⟩, q3⟩
    show E.length ≤ ((sortK E).map sv).length
    rw [List.length_map, hlen]; exact Nat.le_refl _
theorem sorted_nil {h : H} {q : B} (r : Row h q 0 0 [.m0]) :
    FnOk Tryz.prog 183 [.f 244 [.p q 0 0 1]] h fun y h' => y = .l0 ∧ h' = h := by
  refine ⟨.l0, h, ⟨KeepF.refl h, Nat.le_refl _, fun ρ w w0 args hl R => ?_⟩, rfl, rfl⟩
  obtain ⟨x, rfl, arr, rfl, hp⟩ : ∃ x, args = [x] ∧ ∃ arr, x = .func (.func 244) #[] arr ∧ LRel ρ [.p q 0 0 1] arr.toList := by
    cases args with
    | nil => cases hl
    | cons x r =>
      obtain ⟨⟨arr, h1, h2⟩, hr⟩ := hl
      cases r with
      | cons _ _ => cases hr
      | nil => exact ⟨x, rfl, arr, h1, h2⟩
  obtain ⟨L, hL, rfl, hs⟩ : ∃ L, ρ q 0 = some L ∧ arr = #[.pointer (some ⟨L.b, 0, none⟩)] ∧ L.s = 0 ∧ 1 ≤ L.e := by
    obtain ⟨al⟩ := arr
    cases al with
    | nil => cases hp
    | cons y r =>
      obtain ⟨⟨L, h1, h2, h3, h4⟩, hr⟩ := hp
      cases r with
      | cons _ _ => cases hr
      | nil =>
        have hs : L.s = 0 := by omega
        refine ⟨L, h1, ?_, hs, h4⟩
        rw [h2, hs]
  obtain ⟨v1, e1, g1⟩ := load1_ok (h := h) (id := q) (g := 0) (off := 0) (fin := 1) (k := fun _ => true) (by rw [load1_cell (r.2 0 .m0 rfl) (by omega)])
  have ev1 : v1 = .m0 := by
    have := e1 fun u => @decide (u = .m0) (Classical.propDecidable _)
    rw [load1_cell (r.2 0 .m0 rfl) (by omega)] at this
    simp at this
    exact this
  subst ev1
  obtain ⟨x, hx, hcell⟩ := g1 ρ w w0 L R hL (by omega) hs.2
  have hx : x = .map none := hx
  subst hx
  have hbl : L.b < w.heap.size := by obtain ⟨_, _, _, a3, _⟩ := R.loc _ _ _ hL; exact a3
  have hseq : SeqGives Fence.wide 2 Tryz.prog 244 #[.pointer (some ⟨L.b, 0, none⟩)] encStr (fun ss : List (List UInt8) => ss = []) 0 w :=
    AnyZ.keys_gives_nil (ρ := Tryz.keys184_ren) { Tryz.keys184 with } Fence.wide 2 trivial rfl L.b w hbl (by rw [hs.1] at hcell; exact hcell)
  have := AnyZ.sorted_in Tryz.sorted183 Fence.wide 5 trivial trivial trivial trivial rfl (by omega) (sortsC _) (enters_of Tryz.func243 (by kernel_rfl) rfl) 244 #[.pointer (some ⟨L.b, 0, none⟩)] trivial (enters_of Tryz.func244 (by kernel_rfl) rfl) _ 0 (Nat.zero_le _) (by omega) w hseq
  exact ⟨enters_of Tryz.func183 (by kernel_rfl) rfl _ _, (callsIn_wide.1 this).mono fun e w' ⟨v, ss, e1, hS, hrow, hnil, hb⟩ => ⟨v, e1, ρ, Ext.refl _ ρ, hnil.2 hS, R.grow hb.block hb.size hb.tape hb.os hb.output⟩⟩
end Go.Proofs.YtiokhkainaodnaaGreatDoor

set_option linter.all false
namespace Go.Ev
open Go
/-- a shelf's room, files, loose acts -/
noncomputable def shelfK (args : List V) (h : H) (k : B → V → V → V → Bool) : Bool := match args with
  | [v] => vP v fun id g off fin => ifK (Nat.beq g 0) fun _ => ifK (Nat.beq off 0) fun _ => ifK (Nat.ble 3 fin) fun _ => loadN h id g off fin 3 fun vs => match vs with
    | [a, b, c] => k id a b c
    | _ => false
  | _ => false
noncomputable def sumLen (ps : List (V × V)) : Nat → (Nat → Bool) → Bool :=
  List.rec (fun n k => k n) (fun p _ ih n k => Prod.rec (fun _ v => vL v (fun _ => ih n k) fun _ _ _ len _ _ => fN (Nat.add n len) fun n => ih n k) p) ps
/-- no key of the pairs is that one; all keys are texts, each another one -/
def noKey (l n : Nat) : List (V × V) → Bool
  | [] => true
  | (.s l' n', _) :: r => !eqS l n l' n' && noKey l n r
  | _ :: _ => false
def okPs : List (V × V) → Bool
  | [] => true
  | (.s l n, _) :: r => Nat.ble (n + 1) (256 ^ l) && (Nat.ble l 1048576 && (noKey l n r && okPs r))
  | _ :: _ => false
noncomputable def usedM (m : V) (h : H) (k : V → H → Bool) : Bool := vM m (fun _ => k (.i .i64 (.ofNat 0)) h) fun id =>
  ifK (Nat.ble (B.val id + 1) (B.val h.next)) fun _ => mapK h id fun _ _ _ _ _ _ _ ps => ifK (okPs ps) fun _ => sumLen ps 0 fun n => ifK (Nat.ble n 1048576) fun _ => k (.i .i64 (.ofNat n)) h
noncomputable def usedSp : Sp := fun args h k => shelfK args h fun _ _ m _ => usedM m h k
/-- a text into a row in order -/
noncomputable def insS (l n : Nat) (r : List V) : (List V → Bool) → Bool :=
  List.rec (fun k => k [.s l n]) (fun v r ih k => vS v fun l' n' => boolK (ltS l n l' n') (fun _ => k (.s l n :: v :: r)) fun _ => ih fun r' => k (v :: r')) r
noncomputable def sortS (ps : List (V × V)) : (List V → Bool) → Bool :=
  List.rec (fun k => k []) (fun p _ ih k => ih fun r => Prod.rec (fun a _ => vS a fun l n => insS l n r k) p) ps
noncomputable def sorted2 (el : Nat) (m : V) (h : H) (k : V → H → Bool) : Bool := vM m (fun _ => k .l0 h) fun id =>
  ifK (Nat.ble (B.val id + 1) (B.val h.next)) fun _ => ifK (Nat.ble (B.val h.floor) (B.val h.next)) fun _ => mapK h id fun _ _ _ _ _ _ _ ps => ifK (okPs ps) fun _ => ifK (Nat.ble ps.length 10000) fun _ => sortS ps fun vs => natC vs.length (fun _ => k .l0 h) fun n => alloc el vs h fun id h => k (.l id 0 0 n n none) h
noncomputable def sorted1 (el : Nat) (cs : List V) (h : H) (k : V → H → Bool) : Bool := match cs with
  | [p] => vP p fun q g off fin => ifK (Nat.beq g 0) fun _ => ifK (Nat.beq off 0) fun _ => ifK (Nat.beq fin 1) fun _ => load1 h q 0 0 1 fun m => sorted2 el m h k
  | _ => false
/-- the keys of a map, sorted: of the function that goes through them -/
noncomputable def sortedSp (fk el : Nat) : Sp := fun args h k => match args with
  | [v] => vF v fun f cs => ifK (Nat.beq f fk) fun _ => sorted1 el cs h k
  | _ => false
noncomputable def newMap (ps : List (V × V)) (h : H) (k : B → H → Bool) : Bool := hK h fun next floor heap => setList (flat2 ps) 0 .o fun t => T.setK next ⟨0, 7, 0, t, ps.length, 0⟩ heap fun heap => B.incK next fun next' => k next ⟨next', floor, heap⟩
end Go.Ev

set_option maxRecDepth 100000
set_option maxHeartbeats 8000000
set_option linter.all false
namespace Go.Proofs.YtiokhkainaodnaaGreatDoor
open Go Go.Ev
theorem pk_sur : ∀ (l n : Nat), n < 256 ^ l → ∃ bs : List UInt8, bs.length = l ∧ pk bs = n
  | 0, n, h => ⟨[], rfl, by have h' : n < 1 := h; show 0 = n; omega⟩
  | l + 1, n, h => by
    have hd : n / 256 < 256 ^ l := by
      rw [Nat.div_lt_iff_lt_mul (by decide)]
      rw [Nat.pow_succ] at h; exact h
    obtain ⟨bs, e1, e2⟩ := pk_sur l (n / 256) hd
    refine ⟨bs ++ [UInt8.ofNat (n % 256)], by simp [e1], ?_⟩
    rw [pk_append, e2]
    have h3 : pk [UInt8.ofNat (n % 256)] = n % 256 := by
      show 256 * 0 + (UInt8.ofNat (n % 256)).toNat = _ <;> simp
    rw [h3]
    show n / 256 * 256 ^ 1 + n % 256 = n
    omega
theorem key_sv {l n : Nat} (h : Nat.ble (n + 1) (256 ^ l) = true) : ∃ bs : List UInt8, V.s l n = sv bs := by
  obtain ⟨bs, e1, e2⟩ := pk_sur l n (Nat.le_of_ble_eq_true h)
  exact ⟨bs, by unfold sv; rw [e1, e2]⟩
theorem noKey_ok {k : List UInt8} : ∀ {ps : List (V × V)} {E : En}, ps = toP E → noKey k.length (pk k) ps = true → k ∉ keysE E
  | _, [], _, _ => by simp [keysE]
  | _, (a, v) :: E, rfl, h => by
    have h' : (!eqS k.length (pk k) a.length (pk a) && noKey k.length (pk k) (toP E)) = true := h
    simp only [Bool.and_eq_true, Bool.not_eq_true'] at h'
    have hne : k ≠ a := fun e => by
      have h1 := h'.1
      subst e
      unfold eqS at h1
      simp at h1
    intro hm
    have hm' : k ∈ a :: keysE E := hm
    rcases List.mem_cons.1 hm' with e | e
    · exact hne e
    · exact noKey_ok rfl h'.2 e
theorem okPs_ok : ∀ {ps : List (V × V)}, okPs ps = true → ∃ E : En, ps = toP E ∧ (keysE E).Nodup ∧ ∀ p ∈ E, p.1.length ≤ 1048576
  | [], _ => ⟨[], rfl, .nil, fun p hp => by cases hp⟩
  | (a, v) :: r, h => by
    cases a <;> try exact Bool.noConfusion h
    rename_i l n
    have h' : (Nat.ble (n + 1) (256 ^ l) && (Nat.ble l 1048576 && (noKey l n r && okPs r))) = true := h
    simp only [Bool.and_eq_true] at h'
    obtain ⟨h1, h2, h3, h4⟩ := h'
    obtain ⟨bs, e⟩ := key_sv h1
    have el : l = bs.length := by unfold sv at e; injection e
    have en : n = pk bs := by unfold sv at e; injection e
    subst el; subst en
    obtain ⟨E, rfl, e2, e3⟩ := okPs_ok h4
    exact ⟨(bs, v) :: E, rfl, List.nodup_cons.2 ⟨noKey_ok rfl h3, e2⟩, fun p hp => by
      rcases List.mem_cons.1 hp with e | e
      · rw [e]; exact Nat.le_of_ble_eq_true h2
      · exact e3 p e⟩
theorem sumLen_ok : ∀ {E : En} {n : Nat} {k : Nat → Bool}, sumLen (toP E) n k = true → (∀ p ∈ E, IsSl p.2) ∧ ∀ k', sumLen (toP E) n k' = k' (n + usedE E)
  | [], n, k, h => ⟨fun p hp => (by cases hp), fun k' => (by rfl)⟩
  | (a, v) :: E, n, k, h => by
    have e : ∀ k', sumLen (toP ((a, v) :: E)) n k' = vL v (fun _ => sumLen (toP E) n k') fun _ _ _ len _ _ => fN (Nat.add n len) fun n => sumLen (toP E) n k' := fun _ => rfl
    rw [e] at h
    rcases vL_ok h with ⟨rfl, h1⟩ | ⟨id, g, off, len, fin, cap, rfl, h1⟩
    · obtain ⟨a1, a2⟩ := sumLen_ok h1
      refine ⟨fun p hp => ?_, fun k' => by rw [e, vL_l0, a2]; simp [usedE, lenV]⟩
      rcases List.mem_cons.1 hp with e | e
      · rw [e]; exact .inl rfl
      · exact a1 p e
    · rw [fN_eq] at h1
      obtain ⟨a1, a2⟩ := sumLen_ok h1
      refine ⟨fun p hp => ?_, fun k' => by rw [e, vL_l, fN_eq, a2]; simp [usedE, lenV]; rw [Nat.add_assoc]⟩
      rcases List.mem_cons.1 hp with e | e
      · rw [e]; exact .inr ⟨_, _, _, _, _, _, rfl⟩
      · exact a1 p e
theorem shelfK_ok {args : List V} {h : H} {k : B → V → V → V → Bool} (hk : shelfK args h k = true) : ∃ id fin a b c, args = [.p id 0 0 fin] ∧ 3 ≤ fin ∧ Row h id 0 0 [a, b, c] ∧ ∀ k', shelfK args h k' = k' id a b c := by
  cases args with
  | nil => exact Bool.noConfusion hk
  | cons v r =>
    cases r with
    | cons _ _ => exact Bool.noConfusion hk
    | nil =>
      have e : ∀ k', shelfK [v] h k' = vP v fun id g off fin => ifK (Nat.beq g 0) fun _ => ifK (Nat.beq off 0) fun _ => ifK (Nat.ble 3 fin) fun _ => loadN h id g off fin 3 fun vs => match vs with | [a, b, c] => k' id a b c | _ => false := fun _ => rfl
      rw [e] at hk
      obtain ⟨id, g, off, fin, rfl, hk⟩ := vP_ok hk
      obtain ⟨h1, hk⟩ := ifK_ok hk
      obtain ⟨h2, hk⟩ := ifK_ok hk
      obtain ⟨h3, hk⟩ := ifK_ok hk
      obtain rfl : g = 0 := Nat.eq_of_beq_eq_true h1
      obtain rfl : off = 0 := Nat.eq_of_beq_eq_true h2
      obtain ⟨next, floor, heap⟩ := h
      have hk0 := hk
      simp only [loadN, hK_mk] at hk0
      obtain ⟨⟨cur, min, size, cells, bel, fr⟩, hb, hk0⟩ := optK_ok hk0
      simp only [blkK_mk] at hk0
      obtain ⟨hm, hk0⟩ := ifK_ok hk0
      obtain ⟨hf, hk0⟩ := ifK_ok hk0
      obtain ⟨vs, q1, q2, q3⟩ := getList_ok _ _ _ _ hk0
      rw [q1] at hk0
      obtain ⟨a, b, c, rfl⟩ : ∃ a b c, vs = [a, b, c] := by
        match vs, q2 with
        | [a, b, c], _ => exact ⟨a, b, c, rfl⟩
      refine ⟨id, fin, a, b, c, rfl, Nat.le_of_ble_eq_true h3, ⟨fun _ => ⟨_, hb, Nat.le_of_ble_eq_true hm⟩, fun i y hy => ?_⟩, fun k' => ?_⟩
      · have hi : i < 3 := by
          have := (List.getElem?_eq_some_iff.1 hy).1; simpa using this
        unfold cell cellB
        simp only [hb]
        rw [if_pos (Nat.le_of_ble_eq_true hm), q3 i hi]
        exact hy
      · rw [e]
        show ifK (Nat.ble 3 fin) _ = _
        rw [h3, ifK_true]
        simp only [loadN, hK_mk, hb, optK_some, blkK_mk, hm, ifK_true, hf, q1]
theorem sp_of_fn {f : FuncId} {g : Sp} (h : ∀ vs h k, g vs h k = true → FnOk Tryz.prog f vs h fun y h' => ∀ k', g vs h k' = k' y h') : SpOk Tryz.prog f g := by
  intro vs hp k hk
  obtain ⟨v, h', ⟨a1, a2, a3⟩, e⟩ := h vs hp k hk
  exact ⟨v, h', e, a1, a2, a3⟩
theorem mapB_of {h : H} {id : B} {k : B → B → T Blk → Nat → Nat → Nat → Nat → List (V × V) → Bool} (hk : mapK h id k = true) (hlt : Nat.ble (B.val id + 1) (B.val h.next) = true) : ∃ next floor heap cur min size fr ps, (∀ k', mapK h id k' = k' next floor heap cur min size fr ps) ∧ k next floor heap cur min size fr ps = true ∧
    ∀ E, ps = toP E → (keysE E).Nodup → MapB h id E := by
  obtain ⟨next, floor, heap, cur, min, size, cells, n, fr, ps, rfl, hb, hm, hp, hK⟩ := mapK_ok hk
  refine ⟨next, floor, heap, cur, min, size, fr, ps, hK, by rw [← hK k]; exact hk, fun E e hn => ⟨⟨_, hb, hm, by rw [← e]; exact hp⟩, Nat.le_of_ble_eq_true hlt, hn⟩⟩
theorem used_sp : SpOk Tryz.prog 193 usedSp := by
  refine sp_of_fn fun vs h k hk => ?_
  have hk0 : (shelfK vs h fun _ _ m _ => usedM m h k) = true := hk
  obtain ⟨id, fin, a, b, c, rfl, hf, r, e⟩ := shelfK_ok hk0
  rw [e] at hk0
  have e2 : ∀ k', usedSp [.p id 0 0 fin] h k' = usedM b h k' := fun k' => e fun _ _ m _ => usedM m h k'
  cases b <;> try exact Bool.noConfusion hk0
  · refine (used_nil r hf).mono ?_
    rintro y h' ⟨rfl, rfl⟩ k'
    rw [e2]; rfl
  · rename_i mid
    have hk1 : (ifK (Nat.ble (B.val mid + 1) (B.val h.next)) fun _ => mapK h mid fun _ _ _ _ _ _ _ ps => ifK (okPs ps) fun _ => sumLen ps 0 fun n => ifK (Nat.ble n 1048576) fun _ => k (.i .i64 (.ofNat n)) h) = true := hk0
    have e3 : ∀ k', usedM (.m mid) h k' = (ifK (Nat.ble (B.val mid + 1) (B.val h.next)) fun _ => mapK h mid fun _ _ _ _ _ _ _ ps => ifK (okPs ps) fun _ => sumLen ps 0 fun n => ifK (Nat.ble n 1048576) fun _ => k' (.i .i64 (.ofNat n)) h) := fun _ => rfl
    obtain ⟨hlt, hk1⟩ := ifK_ok hk1
    obtain ⟨next, floor, heap, cur, min, size, fr, ps, q1, q2, q3⟩ := mapB_of hk1 hlt
    obtain ⟨hok, q2⟩ := ifK_ok q2
    obtain ⟨E, rfl, n1, n2⟩ := okPs_ok hok
    obtain ⟨s1, s2⟩ := sumLen_ok q2
    rw [s2] at q2
    obtain ⟨hle, q2⟩ := ifK_ok q2
    rw [Nat.zero_add] at hle
    have hle' : usedE E ≤ 1048576 := Nat.le_of_ble_eq_true hle
    refine (used_ok r hf (q3 E rfl n1) s1 (by omega)).mono ?_
    rintro y h' ⟨rfl, rfl⟩ k'
    rw [e2, e3, hlt, ifK_true, q1, hok, ifK_true, s2, Nat.zero_add, hle, ifK_true]; rfl
theorem insS_ok : ∀ (L : List (List UInt8)) (a : List UInt8), (L.Pairwise fun x y => leB x y = true) → ∃ L' : List (List UInt8), (∀ k : List V → Bool, insS a.length (pk a) (L.map sv) k = k (L'.map sv)) ∧ L'.Perm (a :: L) ∧ L'.Pairwise fun x y => leB x y = true
  | [], a, _ => ⟨[a], fun _ => rfl, .refl _, List.pairwise_singleton ..⟩
  | b :: L, a, hp => by
    have e : ∀ k : List V → Bool, insS a.length (pk a) ((b :: L).map sv) k = boolK (ltS a.length (pk a) b.length (pk b)) (fun _ => k (sv a :: sv b :: L.map sv)) fun _ => insS a.length (pk a) (L.map sv) fun r' => k (sv b :: r') := fun _ => rfl
    have hlt := bytesLess_pk a b
    have hbl : Op.bytesLess a b = decide (a < b) := bytesLess_eq a b
    obtain ⟨h1, h2⟩ := List.pairwise_cons.1 hp
    cases hab : ltS a.length (pk a) b.length (pk b) with
    | true =>
      have hlt' : a < b := by rw [hab, hbl] at hlt; simpa using hlt
      refine ⟨a :: b :: L, fun k => by rw [e, hab, boolK_true]; rfl, .refl _, List.pairwise_cons.2 ⟨fun x hx => ?_, hp⟩⟩
      have hle : leB a b = true := by unfold leB; simp only [decide_eq_true_eq]; exact List.le_of_lt hlt'
      rcases List.mem_cons.1 hx with e1 | e1
      · rw [e1]; exact hle
      · have := h1 x e1
        unfold leB at hle this ⊢
        simp only [decide_eq_true_eq] at *
        exact List.le_trans hle this
    | false =>
      have hlt' : ¬ a < b := by rw [hab, hbl] at hlt; simpa using hlt
      have hle : leB b a = true := by unfold leB; simp only [decide_eq_true_eq]; exact List.not_lt.1 hlt'
      obtain ⟨L', i1, i2, i3⟩ := insS_ok L a h2
      refine ⟨b :: L', fun k => by rw [e, hab, boolK_false, i1]; rfl, (i2.cons b).trans (List.Perm.swap a b L), List.pairwise_cons.2 ⟨fun x hx => ?_, i3⟩⟩
      rcases List.mem_cons.1 (i2.mem_iff.1 hx) with e1 | e1
      · rw [e1]; exact hle
      · exact h1 x e1
theorem sortS_ok : ∀ (E : En), ∃ L : List (List UInt8), (∀ k : List V → Bool, sortS (toP E) k = k (L.map sv)) ∧ L.Perm (keysE E) ∧ L.Pairwise fun x y => leB x y = true
  | [] => ⟨[], fun _ => rfl, .refl _, .nil⟩
  | (a, v) :: E => by
    obtain ⟨L, h1, h2, h3⟩ := sortS_ok E
    obtain ⟨L', g1, g2, g3⟩ := insS_ok L a h3
    refine ⟨L', fun k => ?_, g2.trans (h2.cons a), g3⟩
    have e : sortS (toP ((a, v) :: E)) k = sortS (toP E) fun r => insS a.length (pk a) r k := rfl
    rw [e, h1, g1]
theorem sortS_eq (E : En) : ∀ k : List V → Bool, sortS (toP E) k = k ((sortK E).map sv) := by
  obtain ⟨L, h1, h2, h3⟩ := sortS_ok E
  have : L = sortK E := by
    unfold sortK
    rw [← mergeSort_of_perm h2]
    exact (List.mergeSort_of_pairwise h3).symm
  rw [← this]; exact h1
theorem sorted_sp : SpOk Tryz.prog 183 (sortedSp 244 9) := by
  refine sp_of_fn fun vs h k hk => ?_
  cases vs with
  | nil => exact Bool.noConfusion hk
  | cons v r =>
  cases r with
  | cons _ _ => exact Bool.noConfusion hk
  | nil =>
  have e : ∀ k', sortedSp 244 9 [v] h k' = vF v fun f cs => ifK (Nat.beq f 244) fun _ => sorted1 9 cs h k' := fun _ => rfl
  rw [e] at hk
  obtain ⟨f, cs, hv, hk1⟩ := vF_ok hk
  subst hv
  clear hk
  obtain ⟨hf, hk⟩ := ifK_ok hk1
  clear hk1
  obtain rfl : f = 244 := Nat.eq_of_beq_eq_true hf
  cases cs with
  | nil => exact Bool.noConfusion hk
  | cons p r =>
  cases r with
  | cons _ _ => exact Bool.noConfusion hk
  | nil =>
  have e2 : ∀ k', sorted1 9 [p] h k' = vP p fun q g off fin => ifK (Nat.beq g 0) fun _ => ifK (Nat.beq off 0) fun _ => ifK (Nat.beq fin 1) fun _ => load1 h q 0 0 1 fun m => sorted2 9 m h k' := fun _ => rfl
  rw [e2] at hk
  obtain ⟨q, g, off, fin, hv, hk1⟩ := vP_ok hk
  subst hv
  clear hk
  obtain ⟨h1, hk2⟩ := ifK_ok hk1
  clear hk1
  obtain ⟨h2, hk3⟩ := ifK_ok hk2
  clear hk2
  obtain ⟨h3, hk⟩ := ifK_ok hk3
  clear hk3
  obtain rfl : g = 0 := Nat.eq_of_beq_eq_true h1
  obtain rfl : off = 0 := Nat.eq_of_beq_eq_true h2
  obtain rfl : fin = 1 := Nat.eq_of_beq_eq_true h3
  have hrow : ∃ m, Row h q 0 0 [m] ∧ ∀ k' : V → Bool, load1 h q 0 0 1 k' = k' m := by
    obtain ⟨next, floor, heap⟩ := h
    simp only [load1, hK_mk] at hk
    obtain ⟨⟨cur, min, size, cells, bel, fr⟩, hb, hk⟩ := optK_ok hk
    simp only [blkK_mk] at hk
    obtain ⟨hm, hk⟩ := ifK_ok hk
    obtain ⟨hf, hk⟩ := ifK_ok hk
    obtain ⟨m, hm2, hk⟩ := optK_ok hk
    refine ⟨m, ⟨fun _ => ⟨_, hb, Nat.le_of_ble_eq_true hm⟩, fun i y hy => ?_⟩, fun k' => by simp only [load1, hK_mk, hb, optK_some, blkK_mk, hm, ifK_true, hf, hm2, forceV_eq]⟩
    have hi : i = 0 := by
      have := (List.getElem?_eq_some_iff.1 hy).1; simp at this; exact this
    subst hi
    cases hy
    unfold cell cellB
    simp only [hb]
    rw [if_pos (Nat.le_of_ble_eq_true hm)]
    exact hm2
  obtain ⟨m, hr, hl⟩ := hrow
  rw [hl] at hk
  have e3 : ∀ k', sortedSp 244 9 [.f 244 [.p q 0 0 1]] h k' = sorted2 9 m h k' := fun k' => by
    rw [e, vF_f, hf, ifK_true, e2]
    exact hl _
  cases m <;> try exact Bool.noConfusion hk
  · refine (sorted_nil hr).mono ?_
    rintro y h' ⟨rfl, rfl⟩ k'
    rw [e3]; rfl
  · rename_i mid
    have e4 : ∀ k', sorted2 9 (.m mid) h k' = (ifK (Nat.ble (B.val mid + 1) (B.val h.next)) fun _ => ifK (Nat.ble (B.val h.floor) (B.val h.next)) fun _ => mapK h mid fun _ _ _ _ _ _ _ ps => ifK (okPs ps) fun _ => ifK (Nat.ble ps.length 10000) fun _ => sortS ps fun vs => natC vs.length (fun _ => k' .l0 h) fun n => alloc 9 vs h fun id h => k' (.l id 0 0 n n none) h) := fun _ => rfl
    rw [e4] at hk
    obtain ⟨hlt, hk1⟩ := ifK_ok hk
    obtain ⟨hfl, hk2⟩ := ifK_ok hk1
    obtain ⟨next, floor, heap, cur, min, size, fr, ps, q1, q2, q3⟩ := mapB_of hk2 hlt
    obtain ⟨hok, q2⟩ := ifK_ok q2
    obtain ⟨hps, q2⟩ := ifK_ok q2
    obtain ⟨E, rfl, n1, n2⟩ := okPs_ok hok
    have hE : E.length ≤ 10000 := by
      have := Nat.le_of_ble_eq_true hps
      unfold toP at this
      rwa [List.length_map] at this
    refine (sorted_ok hr (q3 E rfl n1) n2 hE (Nat.le_of_ble_eq_true hfl)).mono ?_
    rintro y h' ⟨_, _, _, z0, z1⟩ k'
    rw [e3, e4, hlt, ifK_true, hfl, ifK_true, q1, hok, ifK_true, hps, ifK_true, sortS_eq]
    have hlen : ((sortK E).map sv).length = E.length := by rw [List.length_map]; unfold sortK; rw [List.length_mergeSort]; unfold keysE; rw [List.length_map]
    rw [hlen]
    cases E with
    | nil => obtain ⟨rfl, rfl⟩ := z0 rfl; rfl
    | cons p r =>
      obtain ⟨rfl, a1⟩ := z1 (by simp)
      show alloc 9 _ h _ = _
      rw [a1]; rfl
end Go.Proofs.YtiokhkainaodnaaGreatDoor

set_option linter.all false
namespace Go.Ev
open Go
section
variable {P : Program} {nt : Nat} {ops : Array Oper} {Ts : Nat → F}
/-- operations that leave memory alone, and make the same of h and of h2 -/
def Ops2 (P : Program) : List CO → F → H → H → F → Prop
  | [], t, _, _, t' => t' = t
  | o :: l, t, h, h2, t' => ∃ t1, OpRel P o t h t1 h ∧ OpRel P o t h2 t1 h2 ∧ Ops2 P l t1 h h2 t'
theorem stepOf {nt : Nat} {ops : Array Oper} {i : Nat} {o : Oper} (hi : ops[i]? = some o) {b : Bool} {t t1 : F} {h h1 : H} (a : OpRel P ⟨compG nt ops.toList o.guard, dOf nt o.dst, b, compOp P o.op⟩ t h t1 h1) : StepOk P nt ops i o true t t1 h h1 := by
  have a' : DrRel P ⟨compG nt ops.toList o.guard, dOf nt o.dst, true, compOp P o.op⟩ t h t1 h1 := a
  obtain ⟨cf, hcf, e⟩ := drRel_run a'
  obtain ⟨t1', h1', a1, a2⟩ := dr_step hcf hi (ih := fun t h k => k t h) (k := fun _ _ => true) (e _ _)
  obtain ⟨rfl, rfl⟩ := same_of (fun k => (e (fun t h k => k t h) k).symm.trans (a1 k))
  exact a2
theorem ops2_trace {nt : Nat} {ops : Array Oper} (bars : Nat → Bool) {h h2 : H} : ∀ (l : List Oper) (n : Nat) (rest : List Oper), ops.toList.drop n = l ++ rest → ∀ (t t' : F),
    Ops2 P (compOpsWith bars P nt ops.toList (compOp P) n l) t h h2 t' →
    ∃ Ts : Nat → F, Ts n = t ∧ Ts (n + l.length) = t' ∧ ∀ (i : Nat) o, n ≤ i → i < n + l.length → ops[i]? = some o → StepOk P nt ops i o true (Ts i) (Ts (i + 1)) h h ∧ StepOk P nt ops i o true (Ts i) (Ts (i + 1)) h2 h2 := by
  intro l
  induction l with
  | nil =>
    intro n rest hl t t' hk
    obtain rfl : t' = t := hk
    exact ⟨fun _ => t', rfl, rfl, fun i o h1 h2 => by simp at h2; omega⟩
  | cons o l ih =>
    intro n rest hl t t' hk
    have hn : ops[n]? = some o := by
      have : ops.toList[n]? = some o := by
        have := congrArg (fun l => l[0]?) hl
        simpa using this
      simpa using this
    obtain ⟨t1, k1, k2, k3⟩ := hk
    have hl' : ops.toList.drop (n + 1) = l ++ rest := by rw [← List.drop_drop, hl]; rfl
    obtain ⟨Ts, b1, b2, b3⟩ := ih (n + 1) rest hl' _ _ k3
    refine ⟨fun i => if i = n then t else Ts i, by simp, ?_, fun i oi h1 h2 hi => ?_⟩
    · have e1 : n + (o :: l).length = n + 1 + l.length := by simp; omega
      rw [e1]
      simp only [show ¬ n + 1 + l.length = n by omega, if_false]
      exact b2
    · by_cases hin : i = n
      · subst hin
        rw [hn] at hi
        cases hi
        simp only [if_true, show ¬ i + 1 = i by omega, if_false, b1]
        exact ⟨stepOf hn k1, stepOf hn k2⟩
      · simp only [hin, if_false, show ¬ i + 1 = n by omega]
        exact b3 i oi (by omega) (by simp at h2; omega) hi
/-- all but two leave memory alone; the second one comes behind all that touch it, or ahead of them -/
theorem dw_core (hm : P.follows .mixedOrders = true) {nt : Nat} {ops : Array Oper} (hd : drawsOk ops.toList = true) {t t1 t2 t3 t4 t5 : F} {h h2 h3 : H} {pre mid rest : List CO} {A : CO} {g : G} {d : D} {r : CR}
    (el : compOpsWith (barAt P ops.toList (befs ops.toList [])) P nt ops.toList (compOp P) 0 ops.toList = pre ++ A :: (mid ++ .mk g d true r :: rest))
    (p1 : Ops2 P pre t h h2 t1) (p2 : OpRel P A t1 h t2 h2) (p3 : Ops2 P mid t2 h h2 t3) (p4 : OpRel P (.mk g d true r) t3 h2 t4 h3) (p5 : Ops2 P rest t4 h3 h3 t5) : KeepF h h3 ∧ B.val h.next ≤ B.val h3.next ∧ ∀ ρ a w w0 (id : Nat) (Q : Exit → Act → World → Prop), ARel ρ nt t a → HRel ρ h w w0 → (∀ ρ' a' w', Ext h.floor ρ ρ' → ARel ρ' nt t5 a' → HRel ρ' h3 w' w0 → Q .normal a' w') → (Code.region id ops true).wp P Q a w := by
  obtain ⟨lp, l1, q1, q2, q3⟩ := cow_app el
  obtain ⟨oa, l2, rfl, q4, q5⟩ := cow_cons q3
  obtain ⟨lm, l3, rfl, q6, q7⟩ := cow_app q5
  obtain ⟨ob, lr, rfl, q8, q9⟩ := cow_cons q7
  rw [Nat.zero_add] at q4 q6 q8 q9
  have hop : ∀ (i : Nat) o, ops.toList[i]? = some o → ops[i]? = some o := fun i o e => by simpa using e
  generalize hb0 : lp.length + 1 + lm.length = b at *
  have hn : ops.size = b + 1 + lr.length := by have := congrArg List.length q1; simp at this; omega
  have ha : ops[lp.length]? = some oa := hop _ _ (by rw [q1]; simp)
  have hb : ops[b]? = some ob := hop _ _ (by rw [q1, ← hb0, List.getElem?_append_right (by omega), show lp.length + 1 + lm.length - lp.length = lm.length + 1 by omega, List.getElem?_cons_succ]; simp)
  obtain ⟨T0, b1, b2, b3⟩ := ops2_trace (P := P) (nt := nt) (ops := ops) (h := h) (h2 := h2) _ lp 0 _ (by rw [List.drop_zero]; exact q1) t t1 (by rw [q2]; exact p1)
  rw [Nat.zero_add] at b2 b3
  obtain ⟨T1, c1, c2, c3⟩ := ops2_trace (P := P) (nt := nt) (ops := ops) (h := h) (h2 := h2) _ lm (lp.length + 1) _ (by rw [q1, ← List.drop_drop, List.drop_left]; rfl) t2 t3 (by rw [q6]; exact p3)
  obtain ⟨T2, d1, d2, d3⟩ := ops2_trace (P := P) (nt := nt) (ops := ops) (h := h3) (h2 := h3) _ lr (b + 1) [] (by rw [q1, ← hb0, List.append_nil, show lp.length + 1 + lm.length + 1 = lp.length + (1 + (lm.length + 1)) by omega, ← List.drop_drop, List.drop_left, ← List.drop_drop, List.drop_one, List.tail_cons, ← List.drop_drop, List.drop_left]; rfl) t4 t5 (by rw [q9]; exact p5)
  rw [hb0] at c2 c3
  have hbar : barAt P ops.toList (befs ops.toList []) b = true := by
    injection q8 with _ _ e _
    exact e.symm
  have SA := stepOf ha (by rw [q4] at p2; exact p2)
  have SB := stepOf hb (by have e := q8; rw [hbar] at e; rw [e] at p4; exact p4)
  let Ts : Nat → F := fun i => if i ≤ lp.length then T0 i else if i ≤ b then T1 i else T2 i
  have U0 : ∀ i, i ≤ lp.length → Ts i = T0 i := fun i hi => if_pos hi
  have U1 : ∀ i, lp.length < i → i ≤ b → Ts i = T1 i := fun i hi hj => by
    show (if _ then _ else _) = _
    rw [if_neg (by omega), if_pos hj]
  have U2 : ∀ i, b < i → Ts i = T2 i := fun i hi => by
    show (if _ then _ else _) = _
    rw [if_neg (by omega), if_neg (by omega)]
  have hA : ∀ o, ops[lp.length]? = some o → StepOk P nt ops lp.length o true (Ts lp.length) (Ts (lp.length + 1)) h h2 := fun o ho => by
    rw [ha] at ho; cases ho
    rw [U0 _ (Nat.le_refl _), U1 _ (by omega) (by omega), b2, c1]; exact SA
  have hB : ∀ o, ops[b]? = some o → StepOk P nt ops b o true (Ts b) (Ts (b + 1)) h2 h3 := fun o ho => by
    rw [hb] at ho; cases ho
    rw [U1 _ (by omega) (Nat.le_refl _), U2 _ (by omega), c2, d1]; exact SB
  obtain ⟨f1, f2, f3⟩ := dual_ok (nt := nt) (ops := ops) (Ts := Ts) (n := lp.length) (p := b) (h := h) (h2 := h2) (h3 := h3) hm hd (by omega) (by omega) hbar
    (fun i o hi hne ho => by
      by_cases e : i < lp.length
      · rw [U0 i (by omega), U0 (i + 1) (by omega)]
        exact b3 i o (Nat.zero_le _) e ho
      · rw [U1 i (by omega) (by omega), U1 (i + 1) (by omega) (by omega)]
        exact c3 i o (by omega) hi ho)
    (fun i o hi ho => by
      have : i < ops.size := (Array.getElem?_eq_some_iff.1 ho).1
      rw [U2 i hi, U2 (i + 1) (by omega)]
      exact (d3 i o (by omega) (by omega) ho).1) hA hB
  exact ⟨f1, f2, fun ρ a w w0 id Q A R hQ => f3 ρ a w w0 id Q (by rw [U0 0 (Nat.zero_le _), b1]; exact A) R (by rw [hn, U2 _ (by omega), d2]; exact hQ)⟩
theorem Ok.dw1 (hm : P.follows .mixedOrders = true) {nt : Nat} {t t1 t2 t3 t4 t5 : F} {h h2 h3 : H} {K : X → F → H → Prop} {pre mid rest : List CO} {A : CO} {g : G} {d : D} {r : CR} {ch : Option (List Nat × List (Nat × List Nat))} 
    (p1 : Ops2 P pre t h h2 t1) (p2 : OpRel P A t1 h t2 h2) (p3 : Ops2 P mid t2 h h2 t3) (p4 : OpRel P (.mk g d true r) t3 h2 t4 h3) (p5 : Ops2 P rest t4 h3 h3 t5) (k : K .normal t5 h3) : Ok P nt (.draws (pre ++ A :: (mid ++ .mk g d true r :: rest)) ch) t h K := by
  refine ⟨.normal, t5, h3, by_scopes _ fun c e' hs => ?_, k⟩
  cases c with
  | region id ops draw =>
    have e1 : compRegion P nt ops.toList draw = .draws (pre ++ A :: (mid ++ .mk g d true r :: rest)) ch := e'
    obtain ⟨rfl, hd, e1⟩ := reg_dr e1
    obtain ⟨f1, f2, f3⟩ := dw_core hm hd (CC.draws.inj e1).1 p1 p2 p3 p4 p5
    exact ⟨f1, f2, fun ρ a w w0 Q A R hQ => f3 ρ a w w0 id Q A R hQ⟩
  | scope d => exact absurd rfl (hs d)
  | _ => cases e'
/-- a region that draws, where the walk stops -/
def DW (P : Program) (nt : Nat) (l : List CO) (t : F) (h : H) (K : X → F → H → Prop) : Prop := ∀ ch, Ok P nt (.draws l ch) t h K
theorem DW.gen (hm : P.follows .mixedOrders = true) {nt : Nat} {t t1 t2 t3 t4 t5 : F} {h h2 h3 : H} {K : X → F → H → Prop} {l pre mid rest : List CO} {A : CO} {g : G} {d : D} {r : CR} (hl : l = pre ++ A :: (mid ++ .mk g d true r :: rest))
    (p1 : Ops2 P pre t h h2 t1) (p2 : OpRel P A t1 h t2 h2) (p3 : Ops2 P mid t2 h h2 t3) (p4 : OpRel P (.mk g d true r) t3 h2 t4 h3) (p5 : Ops2 P rest t4 h3 h3 t5) (k : K .normal t5 h3) : DW P nt l t h K := by
  intro ch
  rw [hl]
  exact Ok.dw1 hm p1 p2 p3 p4 p5 k
theorem DW.two (hm : P.follows .mixedOrders = true) {nt : Nat} {t t1 t2 t3 : F} {h h2 h3 : H} {K : X → F → H → Prop} {l pre : List CO} {A : CO} {g : G} {d : D} {r : CR} (hl : l = pre ++ [A, .mk g d true r])
    (p1 : Ops2 P pre t h h2 t1) (p2 : OpRel P A t1 h t2 h2) (p3 : OpRel P (.mk g d true r) t2 h2 t3 h3) (k : K .normal t3 h3) : DW P nt l t h K := DW.gen (mid := []) (rest := []) hm hl p1 p2 rfl p3 rfl k
section
variable {r : Run} {t t' : F} {h h1 h2 : H} {v : V} {n : Nat} {b : Bool} {l : List CO}
end
end
end Go.Ev

set_option maxRecDepth 1000000
set_option linter.all false
namespace Go.Proofs.YtiokhkainaodnaaGreatDoor
open Go Go.Ev
noncomputable abbrev s50_0 : CC := (CC.draws [(uB 8 (doMove (tm 0))), (uB 9 (doNilCheck (tm 8))), (uB 10 (doFieldAddr 0 (tm 9))), (uB 11 (doLoad (tm 10))), (uB 12 (doMove (tm 0))), (uB 13 (doNilCheck (tm 12))), (uB 14 (doFieldAddr 1 (tm 13))), (uB 15 (doLoad (tm 14))), (uB 16 (doMapLen (tm 15))), (uB 17 (doMakeMap (some (tm 16)))), (uB 18 (doMove (tm 0))), (uB 19 (doNilCheck (tm 18))), (uB 20 (doFieldAddr 2 (tm 19))), (uB 21 (doLoad (tm 20))), (uB 22 (doCall 120 [(tm 21)])), (uB 23 (doBuild [(V.i IntKind.i64 (Int.ofNat 0)), V.m0, V.l0] [(Pt.mk 0 1 (tm 11)), (Pt.mk 1 1 (tm 17)), (Pt.mk 2 1 (tm 22))])), (wB 24 (doBox 115 (tm 23))), (uB 3 (doMove (tm 24)))] none)
noncomputable abbrev r50_0 : RgP := (RgP.mk [(wB 25 (doMove (tm 0))), (wB 26 (doNilCheck (tm 25))), (wB 27 (doFieldAddr 1 (tm 26))), (wB 28 (doLoad (tm 27)))] (Operand.tmp 28) 29 [(wB 31 (doExtract 0 (tm 30)))] (Operand.tmp 31) 0 1 30 32 [(wB 33 (doExtract 0 (tm 32))), (wB 34 (doExtract 1 (tm 32))), (wB 4 (doMove (tm 33))), (wB 5 (doMove (tm 34)))])
noncomputable abbrev s50_1 : CC := (CC.draws [(uB 35 (doMove (tm 3))), (uB 36 (doNilCheck (tm 35))), (uB 37 (doFieldAddr 1 (tm 36))), (uB 38 (doLoad (tm 37))), (uB 39 (doMove (tm 4))), (uB 40 (doMove (tm 5))), (uB 41 (doCall 121 [(tm 40)])), (CO.mk G.none D.none Bool.true (CR.mk (doMapSet none (tm 38) (tm 39) (tm 41))))] (some ([6, 7], [(1, [0, 7]), (3, [0, 7])])))
noncomputable abbrev s50_2 : Sh := (Sh.cc s50_1)
noncomputable abbrev s50_3 : CC := (CC.cond (tm 48) CC.skip (CC.exit 2))
noncomputable abbrev s50_4 : CC := (CC.draws [(uB 52 (doMove (tm 3))), (uB 53 (doNilCheck (tm 52))), (uB 54 (doFieldAddr 2 (tm 53))), (uB 55 (doLoad (tm 54))), (uB 56 (doMove (tm 6))), (uB 57 (doFieldAddr 4 (tm 7))), (uB 58 (doLoad (tm 57))), (uB 59 (doCall 121 [(tm 58)])), (uB 60 (doIndexAddr 6 (tm 55) (tm 56))), (uB 61 (doFieldAddr 4 (tm 60))), (CO.mk G.none D.none Bool.true (CR.mk (doStore 1 (tm 61) (tm 59))))] (some ([7, 10], [(1, [0, 8]), (3, [0, 8]), (6, [0])])))
noncomputable abbrev s50_5 : CC := (CC.seq (CC.region [(wB 49 (doMove (tm 47))), (wB 50 (doIndexAddr 6 (tm 45) (tm 47))), (wB 51 (doLoadA 6 (tm 50))), (wB 7 (doAlloc 201 [(V.i IntKind.i64 (Int.ofNat 0)), (V.s 0 0), (V.s 0 0), (V.i IntKind.i64 (Int.ofNat 0)), V.l0, (V.b Bool.false)])), (wB 6 (doMove (tm 49))), (CO.mk G.none D.none Bool.true (CR.mk (doStore 6 (tm 7) (tm 51))))]) s50_4)
noncomputable abbrev s50_6 : CC := (CC.block 3 s50_5)
noncomputable abbrev s50_7 : CC := (CC.region [(wB 62 (bin2 fAdd (tm 47) (oN 1))), (wB 47 (doMove (tm 62)))])
noncomputable abbrev s50_8 : CC := (CC.seq s50_6 s50_7)
noncomputable abbrev s50_9 : CC := (CC.seq s50_3 s50_8)
noncomputable abbrev l50_0 : CC := (CC.seq (CC.region [(wB 48 (bin2 fLss (tm 47) (tm 46)))]) s50_9)
noncomputable abbrev s50_10 : CC := (CC.loop l50_0)
noncomputable abbrev s50_11 : CC := (CC.block 2 s50_10)
noncomputable abbrev s50_12 : CC := (CC.seq (CC.region [(wB 42 (doMove (tm 3))), (wB 43 (doNilCheck (tm 42))), (wB 44 (doFieldAddr 2 (tm 43))), (wB 45 (doLoad (tm 44))), (wB 46 (doLen (tm 45))), (wB 47 (doMove (oN 0)))]) s50_11)
noncomputable abbrev s50_13 : CC := (CC.seq (CC.region [(wB 63 (doMove (tm 3))), (wB 2 (doMove (tm 63)))]) CC.ret)
noncomputable abbrev s50_14 : CC := (CC.seq s50_12 s50_13)
noncomputable abbrev s50_15 : Sh := (Sh.cc s50_14)
noncomputable abbrev s50_16 : Sh := (Sh.seq (Sh.rng r50_0 s50_2) s50_15)
noncomputable abbrev s50_17 : Sh := (Sh.seq (Sh.cc s50_0) s50_16)
noncomputable abbrev b50 : Sh := (Sh.seq (Sh.cc (CC.region [(wB 2 (doMove (O.c V.p0)))])) s50_17)
theorem cs50 : shFnN Tryz.prog [] 50 = ⟨64, b50, [(Rs.tmp (slOf 2))]⟩ := by kernel_rfl
end Go.Proofs.YtiokhkainaodnaaGreatDoor

set_option maxRecDepth 1000000
set_option linter.all false
namespace Go.Proofs.YtiokhkainaodnaaGreatDoor
open Go Go.Ev
noncomputable abbrev s121_0 : CC := (CC.seq (CC.region [(wB 2 (doMove (O.c V.l0)))]) CC.ret)
noncomputable abbrev s121_1 : CC := (CC.cond (tm 4) s121_0 CC.skip)
noncomputable abbrev s121_2 : CC := (CC.seq (CC.region [(wB 3 (doMove (tm 0))), (wB 4 (doNil vLN Bool.false (tm 3) (O.c V.l0)))]) s121_1)
noncomputable abbrev s121_3 : CC := (CC.seq (CC.region [(wB 5 (doBuildSlice 5 0 [] [])), (wB 6 (doMove (tm 0))), (wB 7 (doAppend 5 1 (tm 5) (tm 6))), (wB 2 (doMove (tm 7)))]) CC.ret)
noncomputable abbrev s121_4 : CC := (CC.seq s121_2 s121_3)
noncomputable abbrev b121 : CC := (CC.seq (CC.region [(wB 2 (doMove (O.c V.l0)))]) s121_4)
theorem c121 : compFn Tryz.prog 121 = ⟨8, b121, [(Rs.tmp (slOf 2))]⟩ := by kernel_rfl
noncomputable abbrev s120_0 : CC := (CC.seq (CC.region [(wB 2 (doMove (O.c V.l0)))]) CC.ret)
noncomputable abbrev s120_1 : CC := (CC.cond (tm 4) s120_0 CC.skip)
noncomputable abbrev s120_2 : CC := (CC.seq (CC.region [(wB 3 (doMove (tm 0))), (wB 4 (doNil vLN Bool.false (tm 3) (O.c V.l0)))]) s120_1)
noncomputable abbrev s120_3 : CC := (CC.seq (CC.region [(wB 5 (doBuildSlice 201 0 [] [])), (wB 6 (doMove (tm 0))), (wB 7 (doAppend 201 6 (tm 5) (tm 6))), (wB 2 (doMove (tm 7)))]) CC.ret)
noncomputable abbrev s120_4 : CC := (CC.seq s120_2 s120_3)
noncomputable abbrev b120 : CC := (CC.seq (CC.region [(wB 2 (doMove (O.c V.l0)))]) s120_4)
theorem c120 : compFn Tryz.prog 120 = ⟨8, b120, [(Rs.tmp (slOf 2))]⟩ := by kernel_rfl
end Go.Proofs.YtiokhkainaodnaaGreatDoor
