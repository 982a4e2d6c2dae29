/-
  The rules of the walk, in one.
-/
import Derived.Test.YtiecpllnbekmoaaWc
set_option linter.all false
set_option maxRecDepth 10000
namespace Go.Ev
open Go

section
variable {P : Program} {h : H} {N : Nx} {a b : Int}
theorem h2_and_i64 (ha : 0 ≤ a) (ha2 : a ≤ 9223372036854775807) (hb : 0 ≤ b) (hb2 : b ≤ 9223372036854775807) : H2 P (gBin fAnd) (.i .i64 a) (.i .i64 b) h N = N.go P (.i .i64 ((a.toNat &&& b.toNat : Nat) : Int)) h := h2_and (m := 9223372036854775807) rfl ha ha2 hb hb2
theorem h2_and_u8 (ha : 0 ≤ a) (ha2 : a ≤ 255) (hb : 0 ≤ b) (hb2 : b ≤ 255) : H2 P (gBin fAnd) (.i .u8 a) (.i .u8 b) h N = N.go P (.i .u8 ((a.toNat &&& b.toNat : Nat) : Int)) h := h2_and (m := 255) rfl ha ha2 hb hb2
theorem h2_and_u16 (ha : 0 ≤ a) (ha2 : a ≤ 65535) (hb : 0 ≤ b) (hb2 : b ≤ 65535) : H2 P (gBin fAnd) (.i .u16 a) (.i .u16 b) h N = N.go P (.i .u16 ((a.toNat &&& b.toNat : Nat) : Int)) h := h2_and (m := 65535) rfl ha ha2 hb hb2
theorem h2_and_u32 (ha : 0 ≤ a) (ha2 : a ≤ 4294967295) (hb : 0 ≤ b) (hb2 : b ≤ 4294967295) : H2 P (gBin fAnd) (.i .u32 a) (.i .u32 b) h N = N.go P (.i .u32 ((a.toNat &&& b.toNat : Nat) : Int)) h := h2_and (m := 4294967295) rfl ha ha2 hb hb2
theorem h2_and_u64 (ha : 0 ≤ a) (ha2 : a ≤ 18446744073709551615) (hb : 0 ≤ b) (hb2 : b ≤ 18446744073709551615) : H2 P (gBin fAnd) (.i .u64 a) (.i .u64 b) h N = N.go P (.i .u64 ((a.toNat &&& b.toNat : Nat) : Int)) h := h2_and (m := 18446744073709551615) rfl ha ha2 hb hb2
theorem h2_or_i64 (ha : 0 ≤ a) (ha2 : a ≤ 9223372036854775807) (hb : 0 ≤ b) (hb2 : b ≤ 9223372036854775807) : H2 P (gBin fOr) (.i .i64 a) (.i .i64 b) h N = N.go P (.i .i64 ((a.toNat ||| b.toNat : Nat) : Int)) h := h2_or (m := 9223372036854775807) rfl ha ha2 hb hb2
theorem h2_or_u8 (ha : 0 ≤ a) (ha2 : a ≤ 255) (hb : 0 ≤ b) (hb2 : b ≤ 255) : H2 P (gBin fOr) (.i .u8 a) (.i .u8 b) h N = N.go P (.i .u8 ((a.toNat ||| b.toNat : Nat) : Int)) h := h2_or (m := 255) rfl ha ha2 hb hb2
theorem h2_or_u16 (ha : 0 ≤ a) (ha2 : a ≤ 65535) (hb : 0 ≤ b) (hb2 : b ≤ 65535) : H2 P (gBin fOr) (.i .u16 a) (.i .u16 b) h N = N.go P (.i .u16 ((a.toNat ||| b.toNat : Nat) : Int)) h := h2_or (m := 65535) rfl ha ha2 hb hb2
theorem h2_or_u32 (ha : 0 ≤ a) (ha2 : a ≤ 4294967295) (hb : 0 ≤ b) (hb2 : b ≤ 4294967295) : H2 P (gBin fOr) (.i .u32 a) (.i .u32 b) h N = N.go P (.i .u32 ((a.toNat ||| b.toNat : Nat) : Int)) h := h2_or (m := 4294967295) rfl ha ha2 hb hb2
theorem h2_or_u64 (ha : 0 ≤ a) (ha2 : a ≤ 18446744073709551615) (hb : 0 ≤ b) (hb2 : b ≤ 18446744073709551615) : H2 P (gBin fOr) (.i .u64 a) (.i .u64 b) h N = N.go P (.i .u64 ((a.toNat ||| b.toNat : Nat) : Int)) h := h2_or (m := 18446744073709551615) rfl ha ha2 hb hb2
theorem h2_xor_i64 (ha : 0 ≤ a) (ha2 : a ≤ 9223372036854775807) (hb : 0 ≤ b) (hb2 : b ≤ 9223372036854775807) : H2 P (gBin fXor) (.i .i64 a) (.i .i64 b) h N = N.go P (.i .i64 ((a.toNat ^^^ b.toNat : Nat) : Int)) h := h2_xor (m := 9223372036854775807) rfl ha ha2 hb hb2
theorem h2_xor_u8 (ha : 0 ≤ a) (ha2 : a ≤ 255) (hb : 0 ≤ b) (hb2 : b ≤ 255) : H2 P (gBin fXor) (.i .u8 a) (.i .u8 b) h N = N.go P (.i .u8 ((a.toNat ^^^ b.toNat : Nat) : Int)) h := h2_xor (m := 255) rfl ha ha2 hb hb2
theorem h2_xor_u16 (ha : 0 ≤ a) (ha2 : a ≤ 65535) (hb : 0 ≤ b) (hb2 : b ≤ 65535) : H2 P (gBin fXor) (.i .u16 a) (.i .u16 b) h N = N.go P (.i .u16 ((a.toNat ^^^ b.toNat : Nat) : Int)) h := h2_xor (m := 65535) rfl ha ha2 hb hb2
theorem h2_xor_u32 (ha : 0 ≤ a) (ha2 : a ≤ 4294967295) (hb : 0 ≤ b) (hb2 : b ≤ 4294967295) : H2 P (gBin fXor) (.i .u32 a) (.i .u32 b) h N = N.go P (.i .u32 ((a.toNat ^^^ b.toNat : Nat) : Int)) h := h2_xor (m := 4294967295) rfl ha ha2 hb hb2
theorem h2_xor_u64 (ha : 0 ≤ a) (ha2 : a ≤ 18446744073709551615) (hb : 0 ≤ b) (hb2 : b ≤ 18446744073709551615) : H2 P (gBin fXor) (.i .u64 a) (.i .u64 b) h N = N.go P (.i .u64 ((a.toNat ^^^ b.toNat : Nat) : Int)) h := h2_xor (m := 18446744073709551615) rfl ha ha2 hb hb2
theorem h2_ant_i64 (ha : 0 ≤ a) (ha2 : a ≤ 9223372036854775807) (hb : 0 ≤ b) (hb2 : b ≤ 9223372036854775807) : H2 P (gBin fAnt) (.i .i64 a) (.i .i64 b) h N = N.go P (.i .i64 ((a.toNat ^^^ (a.toNat &&& b.toNat) : Nat) : Int)) h := h2_ant (m := 9223372036854775807) rfl ha ha2 hb hb2
theorem h2_ant_u8 (ha : 0 ≤ a) (ha2 : a ≤ 255) (hb : 0 ≤ b) (hb2 : b ≤ 255) : H2 P (gBin fAnt) (.i .u8 a) (.i .u8 b) h N = N.go P (.i .u8 ((a.toNat ^^^ (a.toNat &&& b.toNat) : Nat) : Int)) h := h2_ant (m := 255) rfl ha ha2 hb hb2
theorem h2_ant_u16 (ha : 0 ≤ a) (ha2 : a ≤ 65535) (hb : 0 ≤ b) (hb2 : b ≤ 65535) : H2 P (gBin fAnt) (.i .u16 a) (.i .u16 b) h N = N.go P (.i .u16 ((a.toNat ^^^ (a.toNat &&& b.toNat) : Nat) : Int)) h := h2_ant (m := 65535) rfl ha ha2 hb hb2
theorem h2_ant_u32 (ha : 0 ≤ a) (ha2 : a ≤ 4294967295) (hb : 0 ≤ b) (hb2 : b ≤ 4294967295) : H2 P (gBin fAnt) (.i .u32 a) (.i .u32 b) h N = N.go P (.i .u32 ((a.toNat ^^^ (a.toNat &&& b.toNat) : Nat) : Int)) h := h2_ant (m := 4294967295) rfl ha ha2 hb hb2
theorem h2_ant_u64 (ha : 0 ≤ a) (ha2 : a ≤ 18446744073709551615) (hb : 0 ≤ b) (hb2 : b ≤ 18446744073709551615) : H2 P (gBin fAnt) (.i .u64 a) (.i .u64 b) h N = N.go P (.i .u64 ((a.toNat ^^^ (a.toNat &&& b.toNat) : Nat) : Int)) h := h2_ant (m := 18446744073709551615) rfl ha ha2 hb hb2
end
theorem cond_tV (x y : V) : cond true x y = x := rfl
theorem cond_fV (x y : V) : cond false x y = y := rfl
theorem map_cV (f : O → V) (o : O) (os : List O) : List.map f (o :: os) = f o :: List.map f os := rfl
theorem map_nV (f : O → V) : List.map f [] = [] := rfl
theorem len_cV (a : V) (l : List V) : (a :: l).length = l.length + 1 := rfl
theorem len_nV : ([] : List V).length = 0 := rfl
theorem take_0V (l : List V) : l.take 0 = [] := rfl
theorem take_sV (n : Nat) (a : V) (l : List V) : (a :: l).take (n + 1) = a :: l.take n := rfl
theorem drop_0V (l : List V) : l.drop 0 = l := rfl
theorem drop_sV (n : Nat) (a : V) (l : List V) : (a :: l).drop (n + 1) = l.drop n := rfl
theorem app_nV (l : List V) : [] ++ l = l := rfl
theorem app_cV (a : V) (l m : List V) : (a :: l) ++ m = a :: (l ++ m) := rfl
theorem getD_0V (a : V) (l : List V) (d : V) : (a :: l).getD 0 d = a := rfl
theorem getD_sV (n : Nat) (a : V) (l : List V) (d : V) : (a :: l).getD (n + 1) d = l.getD n d := by simp [List.getD]
theorem set_0V (a b : V) (l : List V) : (a :: l).set 0 b = b :: l := rfl
theorem set_sV (n : Nat) (a b : V) (l : List V) : (a :: l).set (n + 1) b = a :: l.set n b := rfl
theorem beq_bb (b : Bool) : (b == b) = true := by cases b <;> rfl
theorem bne_bb (b : Bool) : (b != b) = false := by cases b <;> rfl
def wlk := And.intro @wB_eq (And.intro @uB_eq (And.intro @wG_eq (And.intro @uG_eq (And.intro @oN_eq (And.intro @wo_nil (And.intro @do_nil (And.intro @wo_c (And.intro @wo_0 (And.intro @wo_g (And.intro @wo_g0 (And.intro @do_c (And.intro @do_0 (And.intro @do_g (And.intro @do_u (And.intro @do_u0 (And.intro @do_gu (And.intro @go_w (And.intro @go_w0 (And.intro @go_d (And.intro @go_d0 (And.intro @go_u (And.intro @go_u0 (And.intro @gd_tt (And.intro @gd_ff (And.intro @gd_tf (And.intro @gd_ft (And.intro @gd_tu (And.intro @unFloor_re (And.intro @or_move (And.intro @or_pick (And.intro @or_bin (And.intro @or_shift (And.intro @or_rem (And.intro @or_bool (And.intro @or_not (And.intro @or_neg (And.intro @or_conv (And.intro @or_ext (And.intro @or_lenS (And.intro @or_len (And.intro @or_min (And.intro @or_max (And.intro @or_field (And.intro @or_fieldA (And.intro @or_fieldAddr (And.intro @or_nilCheck (And.intro @or_idx (And.intro @or_idxArr (And.intro @or_sindex (And.intro @or_aindex (And.intro @or_concat (And.intro @or_scmp (And.intro @or_ss2 (And.intro @or_ss1 (And.intro @or_ssa (And.intro @or_moveS (And.intro @or_nil (And.intro @or_sliceArr (And.intro @or_load (And.intro @or_loadA (And.intro @or_b2s (And.intro @or_build (And.intro @or_call (And.intro @or_alloc (And.intro @or_box (And.intro @or_buildSlice (And.intro @or_store (And.intro @or_makeSlice (And.intro @or_append (And.intro @or_appendS (And.intro @or_copy (And.intro @or_s2b (And.intro @or_slLo (And.intro @or_slHi (And.intro @or_i2s (And.intro @or_sEq (And.intro @h2_add (And.intro @h2_sub (And.intro @h2_mul (And.intro @h2_lss (And.intro @h2_gtr (And.intro @h2_leq (And.intro @h2_geq (And.intro @h2_eql (And.intro @h2_neq (And.intro @h2_quo (And.intro @h2_rem (And.intro @h2_shl (And.intro @h2_shr (And.intro @h2_beq (And.intro @h2_bne (And.intro @h1_not (And.intro @h1_neg (And.intro @h1_conv (And.intro @h1_ext0 (And.intro @h1_ext1 (And.intro @h1_ext2 (And.intro @h1_ext3 (And.intro @h2_min (And.intro @h2_max (And.intro @h3_pick (And.intro @h1_field (And.intro @h1_fieldA (And.intro @h1_fieldAddr (And.intro @h1_nilCheck (And.intro @h2_idx (And.intro @ix_l (And.intro @h2_idxArr (And.intro @gLen_l0 (And.intro @gLen_l (And.intro @h1_lenS (And.intro @h2_sindex (And.intro @h2_aindex (And.intro @h2_cat (And.intro @h2_seq (And.intro @h2_sne (And.intro @h2_slt (And.intro @h2_sge (And.intro @h2_sle (And.intro @h2_sgt (And.intro @h3_ss2 (And.intro @h2_ss1 (And.intro @h2_ssa (And.intro @h1_moveS (And.intro @h2_nilL0 (And.intro @h2_nilL1 (And.intro @h2_nilP0 (And.intro @h2_nilP1 (And.intro @ld_p (And.intro @la_p (And.intro @l1_re (And.intro @ln_re (And.intro @bs_re (And.intro @fl_n (And.intro @fl_s (And.intro @fl_c (And.intro @fp_i (And.intro @fp_b (And.intro @fp_sv (And.intro @fp_p (And.intro @fp_l (And.intro @fp_l0 (And.intro @fp_a (And.intro @bx_i (And.intro @bx_b (And.intro @bx_sv (And.intro @bx_a (And.intro @bx_p (And.intro @bx_l (And.intro @bx_l0 (And.intro @ms_i (And.intro @h2_slLo (And.intro @h2_slHi (And.intro @h2_sliceArr (And.intro @h1_i2s (And.intro @h2_sE (And.intro @h2_sW (And.intro @h2_sP (And.intro @h2_and_i64 (And.intro @h2_and_u8 (And.intro @h2_and_u16 (And.intro @h2_and_u32 (And.intro @h2_and_u64 (And.intro @h2_or_i64 (And.intro @h2_or_u8 (And.intro @h2_or_u16 (And.intro @h2_or_u32 (And.intro @h2_or_u64 (And.intro @h2_xor_i64 (And.intro @h2_xor_u8 (And.intro @h2_xor_u16 (And.intro @h2_xor_u32 (And.intro @h2_xor_u64 (And.intro @h2_ant_i64 (And.intro @h2_ant_u8 (And.intro @h2_ant_u16 (And.intro @h2_ant_u32 (And.intro @h2_ant_u64 (And.intro @cd_t (And.intro @cd_f (And.intro @fnk_n (And.intro @fnk_0 (And.intro @fnk_1 (And.intro @fnk_2 (And.intro @fnk_3 (And.intro @fnk_4 (And.intro @fnk_A0 (And.intro @fnk_A1 (And.intro @fnk_A2 (And.intro @one_0 (And.intro @one_1 (And.intro @one_2 (And.intro @one_3 (And.intro @sq_n (And.intro @sq_e (And.intro @sq_r (And.intro @lp_n (And.intro @lp_e (And.intro @lp_r (And.intro @Out_n (And.intro @Out_e (And.intro @Out_r (And.intro @oV_t (And.intro @oV_c (And.intro @wrap_i64c (And.intro @wrap_u8c (And.intro @wrap_u16c (And.intro @wrap_u32c (And.intro @wrap_u64c (And.intro @wrap_i64 (And.intro @wrap_u8 (And.intro @wrap_u16 (And.intro @wrap_u32 (And.intro @wrap_u64 (And.intro @wrap_i32 (And.intro @bits_i64 (And.intro @bits_u64 (And.intro @bits_u32 (And.intro @bits_u16 (And.intro @bits_u8 (And.intro @bits_i32 (And.intro @sv_nil (And.intro @sv_one (And.intro @map_cV (And.intro @map_nV (And.intro @cond_tV (And.intro @cond_fV (And.intro @Bool.not_true (And.intro @Bool.not_false (And.intro @Bool.not_not (And.intro @decide_true (And.intro @decide_false (And.intro @Int.ofNat_eq_natCast (And.intro @Int.cast_ofNat_Int (And.intro @and_self (And.intro @Int.toNat_natCast (And.intro @beq_bb (And.intro @bne_bb (And.intro @Bool.false_xor (And.intro @Bool.true_xor (And.intro @len_cV (And.intro @len_nV (And.intro @take_0V (And.intro @take_sV (And.intro @drop_0V (And.intro @drop_sV (And.intro @app_nV (And.intro @app_cV (And.intro @getD_0V (And.intro @getD_sV (And.intro @set_0V (And.intro @set_sV (And.intro @Nat.zero_add (And.intro @Nat.add_zero (And.intro @Nat.mul_one (@Nat.zero_mul))))))))))))))))))))))))))))))))))))))))))))))))))))))))))))))))))))))))))))))))))))))))))))))))))))))))))))))))))))))))))))))))))))))))))))))))))))))))))))))))))))))))))))))))))))))))))))))))))))))))))))))))))))))))))))))))))))))))))))))))))))))))))))))))
def hcn := And.intro @Bool.not_eq_true' (@Bool.not_eq_false')
def lnv := And.intro @List.length_append.{0} (And.intro @List.length_cons.{0} (And.intro @List.length_nil.{0} (And.intro @List.length_take.{0} (And.intro @List.length_drop.{0} (And.intro @List.length_map.{0, 0} (@List.length_set.{0}))))))
def hcl := And.intro @Int.not_lt (And.intro @Int.not_le (And.intro @Nat.not_lt (And.intro @Nat.not_le (And.intro @decide_eq_true_eq (And.intro @decide_eq_false_iff_not (And.intro @Bool.not_eq_true (And.intro @Bool.not_eq_false (And.intro @Bool.not_true (And.intro @Bool.not_false (And.intro @Bool.not_eq_eq_eq_not (@Decidable.not_not)))))))))))
/-- the next step of code, by its form -/
class St (p : Prop) (q : outParam Prop) : Prop where
  h : q → p
section
variable {P : Program} {nt : Nat} {t : F} {h : H} {K : X → F → H → Prop} {a b : CC} {l : List CO} {id : Nat} {o : O}
instance : St (Ok P nt (.seq a b) t h K) (Ok P nt a t h (Sq P nt b K)) := ⟨Ok.sq⟩
instance : St (Ok P nt (.block id a) t h K) (Ok P nt a t h (Out id K)) := ⟨Ok.block⟩
instance : St (Ok P nt (.region l) t h K) (WO P l t h (K .normal)) := ⟨Ok.rg⟩
instance : St (Ok P nt (.cond o a b) t h K) (CD (oV o t) (Ok P nt a t h K) (Ok P nt b t h K)) := ⟨Ok.cd⟩
instance : St (Ok P nt .skip t h K) (K .normal t h) := ⟨Ok.skip⟩
instance : St (Ok P nt (.exit id) t h K) (K (.exit id) t h) := ⟨Ok.exit⟩
instance : St (Ok P nt .ret t h K) (K .ret t h) := ⟨Ok.ret⟩
end
end Go.Ev
