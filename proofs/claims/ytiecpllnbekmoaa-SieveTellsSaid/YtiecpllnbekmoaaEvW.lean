/-
  The laws of evaluation that every walk uses, in one.
-/
import Derived.Test.YtiecpllnbekmoaaEvQ
set_option linter.all false
namespace Go.Ev
open Go

def evs := And.intro @ev_move (And.intro @ev_convR (And.intro @ev_rem (And.intro @vIR_i (And.intro @ev_build0 (And.intro @natK_ofNat (And.intro @load1_refloor (And.intro @loadN_refloor (And.intro @ev_pick (And.intro @ev_bin (And.intro @ev_not (And.intro @ev_bool (And.intro @ev_extract (And.intro @ev_lenS (And.intro @ev_len (And.intro @ev_idx (And.intro @natK_cast (And.intro @ev_load (And.intro @ev_loadA (And.intro @ev_fieldAddr (And.intro @ev_field (And.intro @ev_fieldA (And.intro @ev_nilCheck (And.intro @ev_min (And.intro @ev_max (And.intro @f_add (And.intro @f_sub (And.intro @f_mul (And.intro @f_lss (And.intro @f_gtr (And.intro @f_leq (And.intro @f_geq (And.intro @f_eql (And.intro @f_neq (And.intro @kdEq_self (And.intro @ifK_true (And.intro @vB_b (And.intro @vI_i (And.intro @vP_p (And.intro @vA_a (And.intro @vT_tu (And.intro @vS_s (And.intro @oV_t (And.intro @oV_c (And.intro @get_put (And.intro @wrap_i64 (And.intro @Bool.not_true (And.intro @Bool.not_false (And.intro @Bool.xor_false (And.intro @Bool.xor_true (And.intro @Bool.true_xor (And.intro @Bool.false_xor (And.intro @Int.ofNat_eq_natCast @Int.cast_ofNat_Int))))))))))))))))))))))))))))))))))))))))))))))))))))

end Go.Ev
