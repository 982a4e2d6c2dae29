/-
  The evaluator's operations against the model's: literals, make, arithmetic, len, min, max, calls.
-/
import Derived.Test.YtiecpllnbekmoaaEvU
import Derived.Laws.StructEq
set_option linter.all false
namespace Go.Ev
open Go

theorem run_places (P : Program) (w : World) : ∀ (fs : List Field), (∀ f ∈ fs, (tyAt P f.type).isSome = true) →
    (fs.mapM fun f => do pure (f.offset, ← sizeOf f.type) : Sem (List (Nat × Nat))).run P w = .ok (fs.map fun f => (f.offset, P.cellsOf f.type)) w
  | [], _ => rfl
  | f :: r, h => by
    obtain ⟨ty, hty⟩ := Option.isSome_iff_exists.1 (h f (by simp))
    obtain ⟨i, i1, i2, i3, i4, i5⟩ := tyAt_ok hty
    rw [List.mapM_cons]
    simp only [Sem.run_bind, run_sizeOf' i1, Result.andThen_ok, run_places P w r (fun g hg => h g (by simp [hg])), Sem.run_pure', List.map_cons]
    simp [Program.cellsOf, i1]

theorem build_ok (P : Program) (o : Oper) (el : TypeId) (parts : Array (Nat × Operand)) (h : o.op = .build el parts) : RunOk P o (runK (compBuild P (tyAt P el) parts.toList)) := by
  cases ht : tyAt P el with
  | none => exact no_ok P o
  | some ty =>
    obtain ⟨size, bytes, d, z⟩ := ty
    obtain ⟨i, i1, i2, i3, i4, i5⟩ := tyAt_ok ht
    simp only at i4
    cases d <;> try exact no_ok P o
    · rename_i len e
      cases he : tyAt P e with
      | none => simp only [compBuild, he]; exact no_ok P o
      | some ety =>
        obtain ⟨esz, eb, ed, ez⟩ := ety
        obtain ⟨j, j1, j2, j3, j4, j5⟩ := tyAt_ok he
        cases hc : Nat.ble 1 z.length with
        | false => simp only [compBuild, he, hc]; exact no_ok P o
        | true =>
          simp only [compBuild, he, hc, runK_mk]
          refine RunOk.calm fun cf t hp k hk => ?_
          obtain ⟨cs', h1, h2, h3⟩ := fill_ok (fun i => some (i * esz, esz)) _ _ (parts_arr esz parts.toList) t z _ hk
          refine ⟨.a cs', fun k' => by simp only [doBuild, h1], fun ρ a A w => ?_⟩
          obtain ⟨v, v1, v2⟩ := zero_rel (ρ := ρ) (z := i.zero) (by rw [i4]; exact Nat.le_of_ble_eq_true hc)
          rw [i4] at v2
          obtain ⟨cells', c1, c2⟩ := h3 ρ a (fun x hx => A x (by rw [h]; simpa [Op.operands] using hx)) v.cells v2
          refine ⟨.agg cells', ?_, _, rfl, c2⟩
          unfold execOp
          rw [h]
          simp only [run_v, Instr.build, Sem.run_bind, run_zero' i1 v1, Result.andThen_ok, run_underlying i5, run_sizeOf' j1, j2, Array.toList_map, c1, Sem.run_pure']
    · rename_i fs
      cases hcp : compParts P fs.toList parts.toList with
      | none => simp only [compBuild, hcp]; exact no_ok P o
      | some ps =>
        cases hc : (Nat.ble 1 z.length && fs.toList.all (fun f => (tyAt P f.type).isSome)) with
        | false => simp only [compBuild, hcp, hc]; exact no_ok P o
        | true =>
          simp only [compBuild, hcp, hc, runK_mk]
          simp only [Bool.and_eq_true, List.all_eq_true] at hc
          have hpl : ∀ (n : Nat) f, fs.toList[n]? = some f → ∀ ty, tyAt P f.type = some ty → (fs.toList.map fun f => (f.offset, P.cellsOf f.type)).toArray[n]? = some (f.offset, ty.size) := by
            intro n f hf ty hty
            obtain ⟨j, j1, j2, j3, j4, j5⟩ := tyAt_ok hty
            have hf' : fs[n]? = some f := by simpa using hf
            simp [hf', Program.cellsOf, j1, j2]
          refine RunOk.calm fun cf t hp k hk => ?_
          obtain ⟨cs', h1, h2, h3⟩ := fill_ok _ _ _ (parts_struct P fs.toList _ hpl parts.toList ps hcp) t z _ hk
          refine ⟨.a cs', fun k' => by simp only [doBuild, h1], fun ρ a A w => ?_⟩
          obtain ⟨v, v1, v2⟩ := zero_rel (ρ := ρ) (z := i.zero) (by rw [i4]; exact Nat.le_of_ble_eq_true hc.1)
          rw [i4] at v2
          obtain ⟨cells', c1, c2⟩ := h3 ρ a (fun x hx => A x (by rw [h]; simpa [Op.operands] using hx)) v.cells v2
          refine ⟨.agg cells', ?_, _, rfl, c2⟩
          unfold execOp
          rw [h]
          have hpr : (fs.mapM fun f => do pure (f.offset, ← sizeOf f.type) : Sem (Array (Nat × Nat))).run P w = .ok (fs.toList.map fun f => (f.offset, P.cellsOf f.type)).toArray w := by
            rw [Array.mapM_eq_mapM_toList, Sem.run_map, run_places P w fs.toList (fun f hf => hc.2 f hf)]
            rfl
          simp only [run_v, Instr.build, Sem.run_bind, run_zero' i1 v1, Result.andThen_ok, run_underlying i5, hpr, Array.toList_map, c1, Sem.run_pure']

theorem repL_len (z : List V) : ∀ n, (repL z n).length = n * z.length
  | 0 => by rw [Nat.zero_mul]; rfl
  | n + 1 => by
    have e : repL z (n + 1) = app z (repL z n) := rfl
    rw [e, app_eq]; simp [repL_len z n, Nat.succ_mul, Nat.add_comm]
theorem repL_get (z : List V) (hz : 1 ≤ z.length) : ∀ n i, i < n * z.length → (repL z n)[i]? = z[i % z.length]?
  | 0, i, h => by simp at h
  | n + 1, i, h => by
    have e : repL z (n + 1) = app z (repL z n) := rfl
    rw [e, app_eq]
    by_cases hi : i < z.length
    · rw [List.getElem?_append_left hi, Nat.mod_eq_of_lt hi]
    · rw [List.getElem?_append_right (by omega), repL_get z hz n (i - z.length) (by rw [Nat.succ_mul] at h; omega)]
      congr 1
      conv => rhs; rw [show i = i - z.length + z.length by omega, Nat.add_mod_right]
theorem rep_rel {ρ : Emb} {z : List V} {zc : Array Value} (h : LRel ρ z zc.toList) (hz : 1 ≤ z.length) (n : Nat) :
    LRel ρ (repL z n) ((Array.range (n * z.length)).map (zc[· % zc.size]!)).toList := by
  have hl := h.length
  simp at hl
  refine LRel.of_get (by simp [repL_len]) fun i v x hv hx => ?_
  have hi : i < n * z.length := by
    have := (List.getElem?_eq_some_iff.1 hv).1
    rwa [repL_len] at this
  rw [repL_get z hz n i hi] at hv
  obtain ⟨y, y1, y2⟩ := h.get hv
  have hm : i % zc.size < zc.size := Nat.mod_lt _ (by omega)
  have : x = y := by
    simp [hi, hm] at hx
    rw [← hx]
    rw [hl] at y1
    simpa [hm] using y1
  rw [this]; exact y2

theorem buildSlice_ok (P : Program) (o : Oper) (el : TypeId) (len : Nat) (parts : Array (Nat × Operand)) (h : o.op = .buildSlice el len parts) : RunOk P o (runK (compBuildSlice P (tyAt P el) len parts.toList)) := by
  cases ht : tyAt P el with
  | none => exact no_ok P o
  | some ty =>
    obtain ⟨size, bytes, d, z⟩ := ty
    obtain ⟨i, i1, i2, i3, i4, i5⟩ := tyAt_ok ht
    cases d <;> try exact no_ok P o
    rename_i e
    cases he : tyAt P e with
    | none => simp only [compBuildSlice, he]; exact no_ok P o
    | some ety =>
      obtain ⟨esz, eb, ed, ez⟩ := ety
      obtain ⟨j, j1, j2, j3, j4, j5⟩ := tyAt_ok he
      simp only at j2 j4
      cases hc : (Nat.beq ez.length esz && (Nat.ble 1 esz && Nat.ble (Nat.mul len esz) 1048576)) with
      | false => simp only [compBuildSlice, he, hc]; exact no_ok P o
      | true =>
        simp only [compBuildSlice, he, hc, runK_mk]
        simp only [Bool.and_eq_true] at hc
        have hz1 : ez.length = esz := Nat.eq_of_beq_eq_true hc.1
        have hz2 : 1 ≤ esz := Nat.le_of_ble_eq_true hc.2.1
        have hz3 : len * esz ≤ 1048576 := Nat.le_of_ble_eq_true hc.2.2
        intro cf _ t hp k hk
        obtain ⟨cs', h1, h2, h3⟩ := fill_ok (fun i => some (i * esz, esz)) _ _ (parts_arr esz parts.toList) t (repL ez len) _ hk
        rw [doBuildSlice, h1] at hk
        obtain ⟨h', g1, g2, g3, g4⟩ := alloc_ok hk
        have hcl : cs'.length = len * esz := by rw [h2, repL_len, hz1]
        refine ⟨.l hp.next 0 0 len cs'.length (some len), h', fun k' => by rw [doBuildSlice, h1, g1], g2, g3, fun ρ a w w0 A R => ?_, fun hs => by rw [h] at hs; exact Bool.noConfusion hs⟩
        obtain ⟨v, v1, v2⟩ := zero_rel (ρ := ρ) (z := j.zero) (by rw [j4]; omega)
        rw [j4] at v2
        have hzr : LRel ρ (repL ez len) ((Array.range (len * esz)).map ((if len * esz = 0 then #[] else v.cells)[· % (if len * esz = 0 then #[] else v.cells).size]!)).toList := by
          by_cases h0 : len * esz = 0
          · have : len = 0 := by
              rcases Nat.mul_eq_zero.1 h0 with h0 | h0
              · exact h0
              · omega
            subst this
            simp [repL, h0]
            trivial
          · simp only [h0, if_false]
            have := rep_rel v2 (by omega) len
            rwa [hz1] at this
        obtain ⟨cells', c1, c2⟩ := h3 ρ a (fun x hx => A x (by rw [h]; simpa [Op.operands] using hx)) _ hzr
        have c3 := c2.length
        simp at c3
        obtain ⟨ρ', e1, e2, e3⟩ := g4 ρ w w0 cells' 0 _ R (by omega) rfl
          (fun i v y hv hy => by obtain ⟨z, d1, d2⟩ := c2.get hv; have : some z = some y := by rw [← d1, ← hy, Array.getElem?_toList]
                                 cases this; exact d2) rfl
        refine ⟨.value (.slice (some ⟨w.heap.size, 0, none⟩) len len), w.alloc (.cells cells' e), ?_, ρ', e1, ⟨_, _, _, e2, rfl, Nat.le_refl _, Nat.zero_le _, Nat.le_refl _, .inr rfl, (fun d hd => by cases hd; rfl), (fun hd => by cases hd)⟩, e3⟩
        unfold execOp
        rw [h]
        simp only [run_v, Instr.buildSlice, Sem.run_bind, Result.andThen_ok, run_underlying i5, run_sizeOf' j1, j2]
        rw [if_neg (by omega)]
        by_cases h0 : len * esz = 0
        · simp only [h0, if_true] at c1 ⊢
          simp only [Sem.run_bind, Sem.run_pure', Result.andThen_ok, Array.toList_map, c1]
          rfl
        · simp only [h0, if_false] at c1 ⊢
          simp only [Sem.run_bind, Sem.run_pure', run_zero' j1 v1, Result.andThen_ok, Array.toList_map, c1]
          rfl

theorem makeSlice_ok (P : Program) (o : Oper) (el : TypeId) (x y : Operand) (h : o.op = .makeSlice el x y) : RunOk P o (runK (compMakeSlice P (tyAt P el) (compO x) (compO y))) := by
  cases ht : tyAt P el with
  | none => exact no_ok P o
  | some ty =>
    obtain ⟨size, bytes, d, z⟩ := ty
    obtain ⟨i, i1, i2, i3, i4, i5⟩ := tyAt_ok ht
    cases d <;> try exact no_ok P o
    rename_i e
    cases he : tyAt P e with
    | none => simp only [compMakeSlice, he]; exact no_ok P o
    | some ety =>
      obtain ⟨esz, eb, ed, ez⟩ := ety
      obtain ⟨j, j1, j2, j3, j4, j5⟩ := tyAt_ok he
      simp only at j2 j3 j4
      cases hc : (Nat.beq ez.length esz && (Nat.ble 1 esz && Nat.ble eb 65536)) with
      | false => simp only [compMakeSlice, he, hc]; exact no_ok P o
      | true =>
        simp only [compMakeSlice, he, hc, runK_mk]
        simp only [Bool.and_eq_true] at hc
        have hz1 : ez.length = esz := Nat.eq_of_beq_eq_true hc.1
        have hz2 : 1 ≤ esz := Nat.le_of_ble_eq_true hc.2.1
        have hz3 : eb ≤ 65536 := Nat.le_of_ble_eq_true hc.2.2
        intro cf _ t hp k hk
        simp only [doMakeSlice, oK_eq, oE_eq] at hk
        obtain ⟨kd, l, hl, hk⟩ := vI_ok hk
        obtain ⟨l, rfl, hk⟩ := natK_ok hk
        obtain ⟨kd', c, hcv, hk⟩ := vI_ok hk
        obtain ⟨c, rfl, hk⟩ := natK_ok hk
        obtain ⟨hlc, hk⟩ := ifK_ok hk
        obtain ⟨hc20, hk⟩ := ifK_ok hk
        obtain ⟨h', g1, g2, g3, g4⟩ := alloc_ok hk
        have hlc' : l ≤ c := Nat.le_of_ble_eq_true hlc
        have hc20' : c ≤ 1048576 := Nat.le_of_ble_eq_true hc20
        refine ⟨.l hp.next 0 0 l (c * ez.length) (some c), h', fun k' => by simp only [doMakeSlice, oK_eq, oE_eq, hl, vI_i, natK_ofNat, hcv, hlc, hc20, ifK_true, g1]; rfl, g2, g3, fun ρ a w w0 A R => ?_, fun hs => by rw [h] at hs; exact Bool.noConfusion hs⟩
        obtain ⟨v, v1, v2⟩ := zero_rel (ρ := ρ) (z := j.zero) (by rw [j4]; omega)
        rw [j4] at v2
        have hzr : LRel ρ (repL ez c) ((Array.range (c * esz)).map ((if c * esz = 0 then #[] else v.cells)[· % (if c * esz = 0 then #[] else v.cells).size]!)).toList := by
          by_cases h0 : c * esz = 0
          · have : c = 0 := by
              rcases Nat.mul_eq_zero.1 h0 with h0 | h0
              · exact h0
              · omega
            subst this
            simp [repL, h0]
            trivial
          · simp only [h0, if_false]
            have := rep_rel v2 (by omega) c
            rwa [hz1] at this
        have c3 := hzr.length
        rw [repL_len] at c3
        obtain ⟨ρ', e1, e2, e3⟩ := g4 ρ w w0 ((Array.range (c * esz)).map ((if c * esz = 0 then #[] else v.cells)[· % (if c * esz = 0 then #[] else v.cells).size]!)) 0 _ R (by rw [repL_len]; simp at c3 ⊢; omega) rfl
          (fun i v y hv hy => by obtain ⟨z, d1, d2⟩ := hzr.get hv; have : some z = some y := by rw [← d1, ← hy, Array.getElem?_toList]
                                 cases this; exact d2) rfl
        have hx := (A x (by rw [h]; simp [Op.operands]))
        rw [hl] at hx
        have hx' : a.eval x = .int kd (Int.ofNat l) := hx
        have hy := (A y (by rw [h]; simp [Op.operands]))
        rw [hcv] at hy
        have hy' : a.eval y = .int kd' (Int.ofNat c) := hy
        refine ⟨.value (.slice (some ⟨w.heap.size, 0, none⟩) l c), w.alloc (.cells ((Array.range (c * esz)).map ((if c * esz = 0 then #[] else v.cells)[· % (if c * esz = 0 then #[] else v.cells).size]!)) e), ?_, ρ', e1,
          ⟨_, _, _, e2, rfl, hlc', Nat.zero_le _, by rw [repL_len]; exact Nat.le_refl _, .inr rfl, fun d hd => by cases hd; rfl, fun hd => by cases hd⟩, e3⟩
        unfold execOp
        rw [h]
        have wl : IntKind.i64.wrap (Int.ofNat l) = Int.ofNat l := wrap_small .i64 l (by simp only [mxOf]; omega)
        have wc : IntKind.i64.wrap (Int.ofNat c) = Int.ofNat c := wrap_small .i64 c (by simp only [mxOf]; omega)
        have hb0 : eb * c ≤ 68719476736 := by have := Nat.mul_le_mul hz3 hc20'; omega
        have hb : (eb : Int) * (c : Int) ≤ 68719476736 := by rw [← Int.natCast_mul]; omega
        have hb' : c * eb ≤ 68719476736 := by rw [Nat.mul_comm]; exact hb0
        have hroom : (askRoom (c * eb)).run P w = .ok () w := by
          unfold askRoom
          rw [if_neg (by unfold roomBytes; omega)]
          rfl
        simp only [run_v, Instr.makeSlice, hx', hy', asInt, asIntOf, Sem.run_bind, Result.andThen_ok, run_underlying i5, Sem.run_pure', run_typeInfo' j1, wl, wc, j3]
        rw [if_neg (by simp; omega)]
        simp only [Sem.run_bind, Int.ofNat_eq_natCast, Int.toNat_natCast, hroom, Result.andThen_ok, run_sizeOf' j1, j2]
        by_cases h0 : c * esz = 0
        · simp only [h0, if_true]
          simp only [Sem.run_bind, Sem.run_pure', Result.andThen_ok]
          rfl
        · simp only [h0, if_false]
          simp only [Sem.run_bind, Sem.run_pure', run_zero' j1 v1, Result.andThen_ok]
          rfl

/-! ### Numbers, bools -/
theorem run_eqGuard_int (P : Program) (w : World) (op : BinOp) (t : TypeId) (x y : Operand) (k k' : IntKind) (m n : Int) : (eqGuard op t x y (.int k m) (.int k' n)).run P w = .ok () w := by
  unfold eqGuard
  cases op <;> rfl
theorem run_eqGuard_bool (P : Program) (w : World) (op : BinOp) (t : TypeId) (x y : Operand) (m n : Bool) : (eqGuard op t x y (.bool m) (.bool n)).run P w = .ok () w := by
  unfold eqGuard
  cases op <;> rfl

/-- what an operator makes of two numbers of a kind -/
def BinFOk (op : BinOp) (f : BinF) : Prop := ∀ kd a b k, f kd a b k = true → ∃ v, (∀ k', f kd a b k' = k' v) ∧ ∀ (P : Program) (w : World), ∃ x, (binOp op 0 (.int kd a) (.int kd b)).run P w = .ok x w ∧ (∀ t, binOp op t (.int kd a) (.int kd b) = binOp op 0 (.int kd a) (.int kd b)) ∧ ∀ ρ, VRel ρ v x

theorem mx_lt (kd : IntKind) : mxOf kd < 2 ^ kd.bits := by cases kd <;> simp [mxOf, IntKind.bits]
theorem mx_pow (kd : IntKind) : ∃ n, mxOf kd + 1 = 2 ^ n := by
  cases kd
  · exact ⟨7, rfl⟩
  · exact ⟨15, rfl⟩
  · exact ⟨31, rfl⟩
  · exact ⟨63, rfl⟩
  · exact ⟨8, rfl⟩
  · exact ⟨16, rfl⟩
  · exact ⟨32, rfl⟩
  · exact ⟨64, rfl⟩
theorem bits_ofNat {kd : IntKind} {a : Nat} (h : a ≤ mxOf kd) : (BitVec.ofInt kd.bits (Int.ofNat a)).toNat = a := by
  have := mx_lt kd
  rw [show (Int.ofNat a) = ((a : Nat) : Int) from rfl, BitVec.ofInt_natCast, BitVec.toNat_ofNat, Nat.mod_eq_of_lt (by omega)]
theorem bit_le {kd : IntKind} {a b : Nat} (ha : a ≤ mxOf kd) (hb : b ≤ mxOf kd) : a &&& b ≤ mxOf kd ∧ a ||| b ≤ mxOf kd ∧ a ^^^ b ≤ mxOf kd := by
  obtain ⟨n, hn⟩ := mx_pow kd
  have h1 : a < 2 ^ n := by omega
  have h2 : b < 2 ^ n := by omega
  have := Nat.and_lt_two_pow a h2
  have := Nat.or_lt_two_pow h1 h2
  have := Nat.xor_lt_two_pow h1 h2
  omega
theorem and_ok {kd : IntKind} {a b : Nat} (ha : a ≤ mxOf kd) (hb : b ≤ mxOf kd) (P : Program) (w : World) (t : TypeId) : (binOp .and t (.int kd (Int.ofNat a)) (.int kd (Int.ofNat b))).run P w = .ok (.int kd (Int.ofNat (a &&& b))) w := by
  simp only [binOp, Op.intBits, BitVec.toNat_and, bits_ofNat ha, bits_ofNat hb]
  have := wrap_small kd (a &&& b) (bit_le ha hb).1
  simp at this ⊢
  rw [this]
theorem or_ok {kd : IntKind} {a b : Nat} (ha : a ≤ mxOf kd) (hb : b ≤ mxOf kd) (P : Program) (w : World) (t : TypeId) : (binOp .or t (.int kd (Int.ofNat a)) (.int kd (Int.ofNat b))).run P w = .ok (.int kd (Int.ofNat (a ||| b))) w := by
  simp only [binOp, Op.intBits, BitVec.toNat_or, bits_ofNat ha, bits_ofNat hb]
  have := wrap_small kd (a ||| b) (bit_le ha hb).2.1
  simp at this ⊢
  rw [this]
theorem xor_ok {kd : IntKind} {a b : Nat} (ha : a ≤ mxOf kd) (hb : b ≤ mxOf kd) (P : Program) (w : World) (t : TypeId) : (binOp .xor t (.int kd (Int.ofNat a)) (.int kd (Int.ofNat b))).run P w = .ok (.int kd (Int.ofNat (a ^^^ b))) w := by
  simp only [binOp, Op.intBits, BitVec.toNat_xor, bits_ofNat ha, bits_ofNat hb]
  have := wrap_small kd (a ^^^ b) (bit_le ha hb).2.2
  simp at this ⊢
  rw [this]

theorem xor_and (n : Nat) {x y : BitVec n} : (x &&& ~~~y) = x ^^^ (x &&& y) := by
  apply BitVec.eq_of_getElem_eq
  intro i hi
  simp only [BitVec.getElem_and, BitVec.getElem_not, BitVec.getElem_xor]
  cases x[i] <;> cases y[i] <;> rfl
theorem ant_ok {kd : IntKind} {a b : Nat} (ha : a ≤ mxOf kd) (hb : b ≤ mxOf kd) (P : Program) (w : World) (t : TypeId) : (binOp .andNot t (.int kd (Int.ofNat a)) (.int kd (Int.ofNat b))).run P w = .ok (.int kd (Int.ofNat (a ^^^ (a &&& b)))) w := by
  simp only [binOp, Op.intBits, xor_and, BitVec.toNat_xor, BitVec.toNat_and, bits_ofNat ha, bits_ofNat hb]
  have := wrap_small kd (a ^^^ (a &&& b)) (bit_le ha (bit_le ha hb).1).2.2
  simp at this ⊢
  rw [this]
theorem fOf_ok (op : BinOp) : BinFOk op (fOf op) := by
  intro kd a b k hk
  cases op <;> try exact Bool.noConfusion hk
  case add => exact ⟨.i kd (kd.wrap (a + b)), fun k' => by show wrapF _ _ _ _ = _; rw [wrapF_eq]; rfl, fun P w => ⟨.int kd (kd.wrap (a + b)), by simp [binOp, Op.intArith], fun t => rfl, fun ρ => rfl⟩⟩
  case sub => exact ⟨.i kd (kd.wrap (a - b)), fun k' => by show wrapF _ _ _ _ = _; rw [wrapF_eq]; rfl, fun P w => ⟨.int kd (kd.wrap (a - b)), by simp [binOp, Op.intArith], fun t => rfl, fun ρ => rfl⟩⟩
  case mul => exact ⟨.i kd (kd.wrap (a * b)), fun k' => by show wrapF _ _ _ _ = _; rw [wrapF_eq]; rfl, fun P w => ⟨.int kd (kd.wrap (a * b)), by simp [binOp, Op.intArith], fun t => rfl, fun ρ => rfl⟩⟩
  case quo =>
    have e : ∀ k', fOf .quo kd a b k' = ifK (!eqI b 0) fun _ => wrapF (Int.tdiv a b) kd (mxOf kd) k' := fun _ => rfl
    rw [e] at hk
    obtain ⟨hb, hk⟩ := ifK_ok hk
    have hb0 : ¬ b = 0 := by rw [eqI_eq] at hb; simpa using hb
    exact ⟨.i kd (kd.wrap (a.tdiv b)), fun k' => by rw [e, hb, ifK_true, wrapF_eq], fun P w => ⟨.int kd (kd.wrap (a.tdiv b)), by simp [binOp, Op.intDiv, hb0], fun t => rfl, fun ρ => rfl⟩⟩
  case rem =>
    have e : ∀ k', fOf .rem kd a b k' = ifK (!eqI b 0) fun _ => forceI (Int.tmod a b) fun n => k' (.i kd n) := fun _ => rfl
    rw [e] at hk
    obtain ⟨hb, hk⟩ := ifK_ok hk
    have hb0 : ¬ b = 0 := by rw [eqI_eq] at hb; simpa using hb
    exact ⟨.i kd (a.tmod b), fun k' => by rw [e, hb, ifK_true, forceI_eq], fun P w => ⟨.int kd (a.tmod b), by simp [binOp, Op.intDiv, hb0], fun t => rfl, fun ρ => rfl⟩⟩
  case and =>
    have e : ∀ k', fOf .and kd a b k' = natK a fun a => natK b fun b => ifK (Nat.ble a (mxOf kd)) fun _ => ifK (Nat.ble b (mxOf kd)) fun _ => fN (Nat.land a b) fun n => k' (.i kd (.ofNat n)) := fun _ => rfl
    rw [e] at hk
    obtain ⟨m, rfl, hk2⟩ := natK_ok hk
    obtain ⟨n, rfl, hk3⟩ := natK_ok hk2
    obtain ⟨h1, hk4⟩ := ifK_ok hk3
    obtain ⟨h2, hk5⟩ := ifK_ok hk4
    have l1 : m ≤ mxOf kd := Nat.le_of_ble_eq_true h1
    have l2 : n ≤ mxOf kd := Nat.le_of_ble_eq_true h2
    exact ⟨.i kd (Int.ofNat (m &&& n)), fun k' => by rw [e]; simp only [natK_ofNat, h1, h2, ifK_true, fN_eq]; rfl, fun P w => ⟨.int kd (Int.ofNat (m &&& n)), and_ok l1 l2 P w 0, fun t => rfl, fun ρ => rfl⟩⟩
  case or =>
    have e : ∀ k', fOf .or kd a b k' = natK a fun a => natK b fun b => ifK (Nat.ble a (mxOf kd)) fun _ => ifK (Nat.ble b (mxOf kd)) fun _ => fN (Nat.lor a b) fun n => k' (.i kd (.ofNat n)) := fun _ => rfl
    rw [e] at hk
    obtain ⟨m, rfl, hk2⟩ := natK_ok hk
    obtain ⟨n, rfl, hk3⟩ := natK_ok hk2
    obtain ⟨h1, hk4⟩ := ifK_ok hk3
    obtain ⟨h2, hk5⟩ := ifK_ok hk4
    have l1 : m ≤ mxOf kd := Nat.le_of_ble_eq_true h1
    have l2 : n ≤ mxOf kd := Nat.le_of_ble_eq_true h2
    exact ⟨.i kd (Int.ofNat (m ||| n)), fun k' => by rw [e]; simp only [natK_ofNat, h1, h2, ifK_true, fN_eq]; rfl, fun P w => ⟨.int kd (Int.ofNat (m ||| n)), or_ok l1 l2 P w 0, fun t => rfl, fun ρ => rfl⟩⟩
  case xor =>
    have e : ∀ k', fOf .xor kd a b k' = natK a fun a => natK b fun b => ifK (Nat.ble a (mxOf kd)) fun _ => ifK (Nat.ble b (mxOf kd)) fun _ => fN (Nat.xor a b) fun n => k' (.i kd (.ofNat n)) := fun _ => rfl
    rw [e] at hk
    obtain ⟨m, rfl, hk2⟩ := natK_ok hk
    obtain ⟨n, rfl, hk3⟩ := natK_ok hk2
    obtain ⟨h1, hk4⟩ := ifK_ok hk3
    obtain ⟨h2, hk5⟩ := ifK_ok hk4
    have l1 : m ≤ mxOf kd := Nat.le_of_ble_eq_true h1
    have l2 : n ≤ mxOf kd := Nat.le_of_ble_eq_true h2
    exact ⟨.i kd (Int.ofNat (m ^^^ n)), fun k' => by rw [e]; simp only [natK_ofNat, h1, h2, ifK_true, fN_eq]; rfl, fun P w => ⟨.int kd (Int.ofNat (m ^^^ n)), xor_ok l1 l2 P w 0, fun t => rfl, fun ρ => rfl⟩⟩
  case andNot =>
    have e : ∀ k', fOf .andNot kd a b k' = natK a fun a => natK b fun b => ifK (Nat.ble a (mxOf kd)) fun _ => ifK (Nat.ble b (mxOf kd)) fun _ => fN (Nat.xor a (Nat.land a b)) fun n => k' (.i kd (.ofNat n)) := fun _ => rfl
    rw [e] at hk
    obtain ⟨m, rfl, hk2⟩ := natK_ok hk
    obtain ⟨n, rfl, hk3⟩ := natK_ok hk2
    obtain ⟨h1, hk4⟩ := ifK_ok hk3
    obtain ⟨h2, hk5⟩ := ifK_ok hk4
    have l1 : m ≤ mxOf kd := Nat.le_of_ble_eq_true h1
    have l2 : n ≤ mxOf kd := Nat.le_of_ble_eq_true h2
    exact ⟨.i kd (Int.ofNat (m ^^^ (m &&& n))), fun k' => by rw [e]; simp only [natK_ofNat, h1, h2, ifK_true, fN_eq]; rfl, fun P w => ⟨.int kd (Int.ofNat (m ^^^ (m &&& n))), ant_ok l1 l2 P w 0, fun t => rfl, fun ρ => rfl⟩⟩
  case lss => exact ⟨.b (ltI a b), fun k' => fB_eq _ _, fun P w => ⟨.bool (ltI a b), by simp [binOp, Op.intCmp, ltI_eq], fun t => rfl, fun ρ => rfl⟩⟩
  case gtr => exact ⟨.b (ltI b a), fun k' => fB_eq _ _, fun P w => ⟨.bool (ltI b a), by simp [binOp, Op.intCmp, ltI_eq], fun t => rfl, fun ρ => rfl⟩⟩
  case leq => exact ⟨.b (!ltI b a), fun k' => fB_eq _ _, fun P w => ⟨.bool (!ltI b a), by simp [binOp, Op.intCmp, ltI_eq]; rw [← decide_not]; simp, fun t => rfl, fun ρ => rfl⟩⟩
  case geq => exact ⟨.b (!ltI a b), fun k' => fB_eq _ _, fun P w => ⟨.bool (!ltI a b), by simp [binOp, Op.intCmp, ltI_eq]; rw [← decide_not]; simp, fun t => rfl, fun ρ => rfl⟩⟩
  case eql => exact ⟨.b (eqI a b), fun k' => fB_eq _ _, fun P w => ⟨.bool (eqI a b), by simp [binOp, Op.intCmp, eqI_eq], fun t => rfl, fun ρ => rfl⟩⟩
  case neq => exact ⟨.b (!eqI a b), fun k' => fB_eq _ _, fun P w => ⟨.bool (!eqI a b), by simp [binOp, Op.intCmp, eqI_eq]; rfl, fun t => rfl, fun ρ => rfl⟩⟩

theorem bin2_ok (P : Program) (o : Oper) (op : BinOp) (tx ty : TypeId) (x y : Operand) (h : o.op = .binOp op tx x y ty) : RunOk P o (bin2 (fOf op) (compO x) (compO y)) := by
  refine RunOk.calm fun cf t hp k hk => ?_
  simp only [bin2, oK_eq, oE_eq] at hk
  obtain ⟨kd, m, hm, hk⟩ := vI_ok hk
  obtain ⟨kd', n, hn, hk⟩ := vI_ok hk
  obtain ⟨he, hk2⟩ := ifK_ok hk
  have hkd := kdEq_ok he
  subst hkd
  obtain ⟨v, v1, v2⟩ := fOf_ok op kd m n _ hk2
  refine ⟨v, fun k' => by simp only [bin2, oK_eq, oE_eq, hm, vI_i, hn, he, ifK_true, v1], fun ρ a A w => ?_⟩
  have hx := (A x (by rw [h]; simp [Op.operands]))
  rw [hm] at hx
  have hx' : a.eval x = .int kd m := hx
  have hy := (A y (by rw [h]; simp [Op.operands]))
  rw [hn] at hy
  have hy' : a.eval y = .int kd n := hy
  obtain ⟨z, z1, z2, z3⟩ := v2 P w
  refine ⟨z, ?_, z3 ρ⟩
  unfold execOp
  rw [h]
  simp only [Sem.run_bind, hx', hy', run_eqGuard_int, Result.andThen_ok, z2, z1]
  rfl

theorem bool_ok (P : Program) (o : Oper) (ne : Bool) (tx ty : TypeId) (x y : Operand) (hu : P.underlying tx = some .bool) (h : o.op = .binOp (if ne then .neq else .eql) tx x y ty) : RunOk P o (doBool ne (compO x) (compO y)) := by
  refine RunOk.calm fun cf t hp k hk => ?_
  simp only [doBool, oK_eq, oE_eq] at hk
  obtain ⟨m, hm, hk⟩ := vB_ok hk
  obtain ⟨n, hn, hk⟩ := vB_ok hk
  refine ⟨.b (xor ne (xor (xor m n) true)), fun k' => by simp only [doBool, oK_eq, oE_eq, hm, vB_b, hn, fB_eq], fun ρ a A w => ?_⟩
  have hx := (A x (by rw [h]; simp [Op.operands]))
  rw [hm] at hx
  have hx' : a.eval x = .bool m := hx
  have hy := (A y (by rw [h]; simp [Op.operands]))
  rw [hn] at hy
  have hy' : a.eval y = .bool n := hy
  refine ⟨.bool (xor ne (xor (xor m n) true)), ?_, rfl⟩
  unfold execOp
  rw [h]
  have heq : (Op.equal tx (.bool m) (.bool n)).run P w = .ok (m == n) w := by
    unfold Op.equal Op.maxDepth Op.equalIn
    simp only [Sem.run_bind, run_underlying hu, Result.andThen_ok]
    rfl
  cases ne
  · simp only [Bool.false_eq_true, if_false, Sem.run_bind, hx', hy', run_eqGuard_bool, Result.andThen_ok, binOp, heq]
    cases m <;> cases n <;> rfl
  · simp only [if_true, Sem.run_bind, hx', hy', run_eqGuard_bool, Result.andThen_ok, binOp, heq]
    cases m <;> cases n <;> rfl

theorem rem_ok (P : Program) (o : Oper) (tx ty : TypeId) (x y : Operand) (h : o.op = .binOp .rem tx x y ty) : RunOk P o (doRem (compO x) (compO y)) := by
  refine RunOk.calm fun cf t hp k hk => ?_
  simp only [doRem, oK_eq, oE_eq] at hk
  obtain ⟨kd', b, hb, hk⟩ := vI_ok hk
  rcases vIR_ok hk with ⟨kd, m, hm, hk⟩ | ⟨kd, m, r, hi, hm, hk⟩
  · obtain ⟨he, hk2⟩ := ifK_ok hk
    have hkd := kdEq_ok he
    subst hkd
    have hk3 : fOf .rem kd m b (fun v => k v hp) = true := hk2
    obtain ⟨v, v1, v2⟩ := fOf_ok .rem kd m b _ hk3
    refine ⟨v, fun k' => ?_, fun ρ a A w => ?_⟩
    · have := v1 (fun v => k' v hp)
      simp only [doRem, oK_eq, oE_eq, hm, hb, vI_i, vIR_i, he, ifK_true]
      exact this
    have hx := (A x (by rw [h]; simp [Op.operands]))
    rw [hm] at hx
    have hx' : a.eval x = .int kd m := hx
    have hy := (A y (by rw [h]; simp [Op.operands]))
    rw [hb] at hy
    have hy' : a.eval y = .int kd b := hy
    obtain ⟨z, z1, z2, z3⟩ := v2 P w
    refine ⟨z, ?_, z3 ρ⟩
    unfold execOp
    rw [h]
    simp only [Sem.run_bind, hx', hy', run_eqGuard_int, Result.andThen_ok, z2, z1]
    rfl
  · obtain ⟨he, hk2⟩ := ifK_ok hk
    have hkd := kdEq_ok he
    subst hkd
    obtain ⟨c, rfl, hk3⟩ := natK_ok hk2
    obtain ⟨h1, hk4⟩ := ifK_ok hk3
    obtain ⟨h0, hk5⟩ := ifK_ok hk4
    have hc1 : 1 ≤ c := Nat.le_of_ble_eq_true h1
    have hc0 : m % c = 0 := Nat.eq_of_beq_eq_true h0
    refine ⟨.i kd (Int.ofNat (r % c)), fun k' => ?_, fun ρ a A w => ?_⟩
    · simp only [doRem, oK_eq, oE_eq, hm, hb, vI_i, vIR_r, remR, he, ifK_true, natK_ofNat, h1, h0, fN_eq]; rfl
    have hx := (A x (by rw [h]; simp [Op.operands]))
    rw [hm] at hx
    obtain ⟨n, hx', hn1, hn2⟩ := hx
    have hy := (A y (by rw [h]; simp [Op.operands]))
    rw [hb] at hy
    have hy' : a.eval y = .int kd (Int.ofNat c) := hy
    refine ⟨.int kd (Int.ofNat (r % c)), ?_, rfl⟩
    have hrem : (binOp .rem tx (.int kd (n : Int)) (.int kd (Int.ofNat c))).run P w = .ok (.int kd (Int.ofNat (r % c))) w := by
      have hc2 : ¬ (Int.ofNat c) = 0 := by simp; omega
      simp only [binOp, Op.intDiv, hc2, if_false]
      have : Int.tmod (n : Int) (Int.ofNat c) = Int.ofNat (r % c) := by
        rw [← hn1, Nat.mod_mod_of_dvd _ (Nat.dvd_of_mod_eq_zero hc0)]
        rfl
      rw [this, if_neg (by simp)]; rfl
    unfold execOp
    rw [h]
    simp only [Sem.run_bind, hx', hy', run_eqGuard_int, Result.andThen_ok, hrem]
    rfl

theorem pow2_cast (n : Nat) : Int.ofNat (Nat.pow 2 n) = (2 : Int) ^ n := by
  show ((2 ^ n : Nat) : Int) = 2 ^ n
  simp
theorem shl_eq (kd : IntKind) (a : Int) (n : Nat) (k : V → Bool) : shlF kd a n k = k (.i kd (kd.wrap (a * 2 ^ n))) := by
  rw [shlF, wrapF_eq, pow2_cast]; rfl
theorem shr_eq (kd : IntKind) (a : Int) (n : Nat) (k : V → Bool) : shrF kd a n k = k (.i kd (a.fdiv (2 ^ n))) := by
  rw [shrF, forceI_eq, pow2_cast]
theorem shl_op (t : TypeId) (kd kd' : IntKind) (a : Int) (n : Nat) : binOp .shl t (.int kd a) (.int kd' (Int.ofNat n)) = pure (.int kd (kd.wrap (a * 2 ^ (min n kd.bits)))) := by
  have : ¬ (Int.ofNat n) < 0 := by simp
  simp only [binOp, Op.shift, this, if_false]; rfl
theorem shr_op (t : TypeId) (kd kd' : IntKind) (a : Int) (n : Nat) : binOp .shr t (.int kd a) (.int kd' (Int.ofNat n)) = pure (.int kd (a.fdiv (2 ^ (min n kd.bits)))) := by
  have : ¬ (Int.ofNat n) < 0 := by simp
  simp only [binOp, Op.shift, this, if_false]; rfl
theorem run_eqGuard_int2 (P : Program) (w : World) (op : BinOp) (t : TypeId) (x y : Operand) (kd kd' : IntKind) (m n : Int) : (eqGuard op t x y (.int kd m) (.int kd' n)).run P w = .ok () w := by
  unfold eqGuard
  cases op <;> rfl
theorem shift_ok (P : Program) (o : Oper) (op : BinOp) (f : IntKind → Int → Nat → (V → Bool) → Bool) (g : IntKind → Int → Nat → Int) (hf : ∀ kd a n k, f kd a n k = k (.i kd (g kd a n)))
    (ho : op = .shl ∨ op = .shr) (hg : ∀ t kd kd' a n, binOp op t (.int kd a) (.int kd' (Int.ofNat n)) = pure (.int kd (g kd a (min n kd.bits))))
    (tx ty : TypeId) (x y : Operand) (h : o.op = .binOp op tx x y ty) : RunOk P o (doShift f (compO x) (compO y)) := by
  refine RunOk.calm fun cf t hp k hk => ?_
  simp only [doShift, oE_eq] at hk
  obtain ⟨kd, m, hm, hk1⟩ := vI_ok hk
  obtain ⟨kd', n', hn, hk2⟩ := vI_ok hk1
  obtain ⟨n, rfl, hk3⟩ := natK_ok hk2
  refine ⟨.i kd (g kd m (min n kd.bits)), fun k' => by simp only [doShift, oE_eq, hm, vI_i, hn, natK_ofNat, hf], fun ρ a A w => ?_⟩
  have hx := (A x (by rw [h]; simp [Op.operands]))
  rw [hm] at hx
  have hx' : a.eval x = .int kd m := hx
  have hy := (A y (by rw [h]; simp [Op.operands]))
  rw [hn] at hy
  have hy' : a.eval y = .int kd' (Int.ofNat n) := hy
  refine ⟨.int kd (g kd m (min n kd.bits)), ?_, rfl⟩
  unfold execOp
  rw [h]
  simp only [Sem.run_bind, hx', hy', run_eqGuard_int2 P w op tx x y kd kd' m (Int.ofNat n), Result.andThen_ok, hg]
  rfl

/-- what tells of a value whether it is nil -/
structure NilOk (P : Program) (tx : TypeId) (f : V → (Bool → Bool) → Bool) : Prop where
  told : ∀ {v k}, f v k = true → ∃ b, (∀ k', f v k' = k' b)
  guard : ∀ {ρ v v' x y b b'}, (∀ k, f v k = k b) → (∀ k, f v' k = k b') → VRel ρ v x → VRel ρ v' y → ∀ w op a c, (eqGuard op tx a c x y).run P w = .ok () w
  eq : ∀ {ρ v v' x y b b'}, (∀ k, f v k = k b) → (∀ k, f v' k = k b') → VRel ρ v x → VRel ρ v' y → (b || b') = true → ∀ w, (binOp .eql tx x y).run P w = .ok (.bool (b && b')) w ∧ (binOp .neq tx x y).run P w = .ok (.bool (!(b && b'))) w
theorem vPN_ok {v : V} {k : Bool → Bool} (h : vPN v k = true) : v = .p0 ∨ ∃ id g off fin, v = .p id g off fin := by
  cases v <;> first | exact .inl rfl | exact .inr ⟨_, _, _, _, rfl⟩ | exact Bool.noConfusion h
theorem vLN_ok {v : V} {k : Bool → Bool} (h : vLN v k = true) : v = .l0 ∨ ∃ id g off len fin cap, v = .l id g off len fin cap := by
  rcases vL_ok h with ⟨h, _⟩ | ⟨a, b, c, d, e, f, h, _⟩
  · exact .inl h
  · exact .inr ⟨a, b, c, d, e, f, h⟩
theorem pn_rel {ρ : Emb} {v : V} {x : Value} {b : Bool} (h : ∀ k, vPN v k = k b) (hr : VRel ρ v x) : (b = true ∧ x = .pointer none) ∨ (b = false ∧ ∃ a, x = .pointer (some a)) := by
  have hb := h (fun c => c == b)
  simp at hb
  rcases vPN_ok hb with rfl | ⟨id, g, off, fin, rfl⟩
  · have : true = b := by have := h _root_.id; exact this
    exact .inl ⟨this.symm, hr⟩
  · have : false = b := by have := h _root_.id; exact this
    obtain ⟨L, _, hx, _⟩ := hr
    exact .inr ⟨this.symm, _, hx⟩
theorem ln_rel {ρ : Emb} {v : V} {x : Value} {b : Bool} (h : ∀ k, vLN v k = k b) (hr : VRel ρ v x) : (b = true ∧ x = .slice none 0 0) ∨ (b = false ∧ ∃ a l c, x = .slice (some a) l c) := by
  have hb := h (fun c => c == b)
  simp at hb
  rcases vLN_ok hb with rfl | ⟨id, g, off, len, fin, cap, rfl⟩
  · have : true = b := by have := h _root_.id; exact this
    exact .inl ⟨this.symm, hr⟩
  · have : false = b := by have := h _root_.id; exact this
    obtain ⟨L, a, c, _, hx, _⟩ := hr
    exact .inr ⟨this.symm, _, _, _, hx⟩
theorem nilP (P : Program) (tx e : TypeId) (hu : P.underlying tx = some (.pointer e)) : NilOk P tx vPN where
  told := fun {v k} h => by
    rcases vPN_ok h with rfl | ⟨id, g, off, fin, rfl⟩
    · exact ⟨true, fun _ => rfl⟩
    · exact ⟨false, fun _ => rfl⟩
  guard := fun {ρ v v' x y b b'} h1 h2 r1 r2 w op a c => by
    unfold eqGuard
    rcases pn_rel h1 r1 with ⟨_, rfl⟩ | ⟨_, _, rfl⟩ <;> rcases pn_rel h2 r2 with ⟨_, rfl⟩ | ⟨_, _, rfl⟩ <;> cases op <;> rfl
  eq := fun {ρ v v' x y b b'} h1 h2 r1 r2 hb w => by
    have key : (Op.equal tx x y).run P w = .ok (b && b') w := by
      unfold Op.equal Op.maxDepth Op.equalIn
      simp only [Sem.run_bind, run_underlying hu, Result.andThen_ok]
      rcases pn_rel h1 r1 with ⟨rfl, rfl⟩ | ⟨rfl, _, rfl⟩ <;> rcases pn_rel h2 r2 with ⟨rfl, rfl⟩ | ⟨rfl, _, rfl⟩ <;> first | rfl | exact absurd hb (by decide)
    have e1 : binOp .eql tx x y = (do pure (.bool (← Op.equal tx x y))) := by
      rcases pn_rel h1 r1 with ⟨_, rfl⟩ | ⟨_, _, rfl⟩ <;> rcases pn_rel h2 r2 with ⟨_, rfl⟩ | ⟨_, _, rfl⟩ <;> rfl
    have e2 : binOp .neq tx x y = (do pure (.bool (!(← Op.equal tx x y)))) := by
      rcases pn_rel h1 r1 with ⟨_, rfl⟩ | ⟨_, _, rfl⟩ <;> rcases pn_rel h2 r2 with ⟨_, rfl⟩ | ⟨_, _, rfl⟩ <;> rfl
    constructor
    · rw [e1, Sem.run_bind, key]; rfl
    · rw [e2, Sem.run_bind, key]; rfl
theorem nilL (P : Program) (tx e : TypeId) (hu : P.underlying tx = some (.slice e)) : NilOk P tx vLN where
  told := fun {v k} h => by
    rcases vLN_ok h with rfl | ⟨id, g, off, len, fin, cap, rfl⟩
    · exact ⟨true, fun _ => rfl⟩
    · exact ⟨false, fun _ => rfl⟩
  guard := fun {ρ v v' x y b b'} h1 h2 r1 r2 w op a c => by
    unfold eqGuard
    rcases ln_rel h1 r1 with ⟨_, rfl⟩ | ⟨_, _, _, _, rfl⟩ <;> rcases ln_rel h2 r2 with ⟨_, rfl⟩ | ⟨_, _, _, _, rfl⟩ <;> cases op <;> rfl
  eq := fun {ρ v v' x y b b'} h1 h2 r1 r2 hb w => by
    have key : (Op.equal tx x y).run P w = .ok (b && b') w := by
      unfold Op.equal Op.maxDepth Op.equalIn
      simp only [Sem.run_bind, run_underlying hu, Result.andThen_ok]
      rcases ln_rel h1 r1 with ⟨rfl, rfl⟩ | ⟨rfl, _, _, _, rfl⟩ <;> rcases ln_rel h2 r2 with ⟨rfl, rfl⟩ | ⟨rfl, _, _, _, rfl⟩ <;> first | rfl | exact absurd hb (by decide)
    have e1 : binOp .eql tx x y = (do pure (.bool (← Op.equal tx x y))) := by
      rcases ln_rel h1 r1 with ⟨_, rfl⟩ | ⟨_, _, _, _, rfl⟩ <;> rcases ln_rel h2 r2 with ⟨_, rfl⟩ | ⟨_, _, _, _, rfl⟩ <;> rfl
    have e2 : binOp .neq tx x y = (do pure (.bool (!(← Op.equal tx x y)))) := by
      rcases ln_rel h1 r1 with ⟨_, rfl⟩ | ⟨_, _, _, _, rfl⟩ <;> rcases ln_rel h2 r2 with ⟨_, rfl⟩ | ⟨_, _, _, _, rfl⟩ <;> rfl
    constructor
    · rw [e1, Sem.run_bind, key]; rfl
    · rw [e2, Sem.run_bind, key]; rfl
theorem vMN_ok {v : V} {k : Bool → Bool} (h : vMN v k = true) : v = .m0 ∨ ∃ id, v = .m id := by
  cases v <;> first | exact .inl rfl | exact .inr ⟨_, rfl⟩ | exact Bool.noConfusion h
theorem mn_rel {ρ : Emb} {v : V} {x : Value} {b : Bool} (h : ∀ k, vMN v k = k b) (hr : VRel ρ v x) : (b = true ∧ x = .map none) ∨ (b = false ∧ ∃ a, x = .map (some a)) := by
  have hb := h (fun c => c == b)
  simp at hb
  rcases vMN_ok hb with rfl | ⟨id, rfl⟩
  · have : true = b := by have := h _root_.id; exact this
    exact .inl ⟨this.symm, hr⟩
  · have : false = b := by have := h _root_.id; exact this
    obtain ⟨L, _, hx⟩ := hr
    exact .inr ⟨this.symm, _, hx⟩
theorem nilM (P : Program) (tx kt e : TypeId) (hu : P.underlying tx = some (.map kt e)) : NilOk P tx vMN where
  told := fun {v k} h => by
    rcases vMN_ok h with rfl | ⟨id, rfl⟩
    · exact ⟨true, fun _ => rfl⟩
    · exact ⟨false, fun _ => rfl⟩
  guard := fun {ρ v v' x y b b'} h1 h2 r1 r2 w op a c => by
    unfold eqGuard
    rcases mn_rel h1 r1 with ⟨_, rfl⟩ | ⟨_, _, rfl⟩ <;> rcases mn_rel h2 r2 with ⟨_, rfl⟩ | ⟨_, _, rfl⟩ <;> cases op <;> rfl
  eq := fun {ρ v v' x y b b'} h1 h2 r1 r2 hb w => by
    have key : (Op.equal tx x y).run P w = .ok (b && b') w := by
      unfold Op.equal Op.maxDepth Op.equalIn
      simp only [Sem.run_bind, run_underlying hu, Result.andThen_ok]
      rcases mn_rel h1 r1 with ⟨rfl, rfl⟩ | ⟨rfl, _, rfl⟩ <;> rcases mn_rel h2 r2 with ⟨rfl, rfl⟩ | ⟨rfl, _, rfl⟩ <;> first | rfl | exact absurd hb (by decide)
    have e1 : binOp .eql tx x y = (do pure (.bool (← Op.equal tx x y))) := by
      rcases mn_rel h1 r1 with ⟨_, rfl⟩ | ⟨_, _, rfl⟩ <;> rcases mn_rel h2 r2 with ⟨_, rfl⟩ | ⟨_, _, rfl⟩ <;> rfl
    have e2 : binOp .neq tx x y = (do pure (.bool (!(← Op.equal tx x y)))) := by
      rcases mn_rel h1 r1 with ⟨_, rfl⟩ | ⟨_, _, rfl⟩ <;> rcases mn_rel h2 r2 with ⟨_, rfl⟩ | ⟨_, _, rfl⟩ <;> rfl
    constructor
    · rw [e1, Sem.run_bind, key]; rfl
    · rw [e2, Sem.run_bind, key]; rfl
theorem nil_ok (P : Program) (o : Oper) (f : V → (Bool → Bool) → Bool) (ne : Bool) (tx ty : TypeId) (x y : Operand) (hf : NilOk P tx f) (h : o.op = .binOp (if ne then .neq else .eql) tx x y ty) : RunOk P o (doNil f ne (compO x) (compO y)) := by
  refine RunOk.calm fun cf t hp k hk => ?_
  simp only [doNil, oE_eq] at hk
  obtain ⟨m, hm⟩ := hf.told hk
  rw [hm] at hk
  obtain ⟨n, hn⟩ := hf.told hk
  rw [hn] at hk
  obtain ⟨hmn, hk⟩ := ifK_ok hk
  refine ⟨.b (xor ne (m && n)), fun k' => by simp only [doNil, oE_eq, hm, hn, hmn, ifK_true, fB_eq], fun ρ a A w => ?_⟩
  have hx := (A x (by rw [h]; simp [Op.operands]))
  have hy := (A y (by rw [h]; simp [Op.operands]))
  refine ⟨.bool (xor ne (m && n)), ?_, rfl⟩
  have hg := hf.guard hm hn hx hy w (if ne then .neq else .eql) x y
  obtain ⟨q1, q2⟩ := hf.eq hm hn hx hy hmn w
  unfold execOp
  rw [h]
  cases ne
  · simp only [Bool.false_eq_true, if_false] at hg ⊢
    simp only [Sem.run_bind, hg, Result.andThen_ok, q1]
    cases m <;> cases n <;> rfl
  · simp only [if_true] at hg ⊢
    simp only [Sem.run_bind, hg, Result.andThen_ok, q2]
    cases m <;> cases n <;> rfl

/-! structs, cell by cell -/
theorem kdOf_ok {ty : Option Ty} {kd : KD} (h : kdOf ty = some kd) : ∃ b z d, ty = some ⟨1, b, d, z⟩ ∧ ((kd = .i ∧ ∃ k, d = .int k) ∨ (kd = .b ∧ d = .bool) ∨ (kd = .s ∧ d = .string)) := by
  unfold kdOf at h
  split at h <;> cases h
  · exact ⟨_, _, _, rfl, .inl ⟨rfl, _, rfl⟩⟩
  · exact ⟨_, _, _, rfl, .inr (.inl ⟨rfl, rfl⟩)⟩
  · exact ⟨_, _, _, rfl, .inr (.inr ⟨rfl, rfl⟩)⟩
theorem eqCell_ok {kd : KD} {a b : V} {k : Bool → Bool} (h : eqCell kd a b k = true) : ∃ r, (∀ k', eqCell kd a b k' = k' r) ∧ k r = true ∧
    ∀ (P : Program) (ρ : Emb) (x y : Value) (t : TypeId) (bb : Nat) (z : List V) (d : TypeDesc) (D : Nat) (w : World), VRel ρ a x → VRel ρ b y → tyAt P t = some ⟨1, bb, d, z⟩ →
      ((kd = .i ∧ ∃ k, d = .int k) ∨ (kd = .b ∧ d = .bool) ∨ (kd = .s ∧ d = .string)) → (Op.equalIn (D + 1) t x y).run P w = .ok r w := by
  cases kd with
  | i =>
    obtain ⟨ka, m, rfl, h⟩ := vI_ok h
    obtain ⟨kb, n, rfl, h⟩ := vI_ok h
    obtain ⟨hk, h⟩ := ifK_ok h
    have hk' := kdEq_ok hk
    subst hk'
    have e : ∀ k' : Bool → Bool, eqCell .i (.i ka m) (.i ka n) k' = k' (eqI m n) := fun k' => by
      show ifK (kdEq ka ka) (fun _ => boolK (eqI m n) (fun _ => k' true) (fun _ => k' false)) = _
      rw [hk, ifK_true]; cases eqI m n <;> rfl
    refine ⟨_, e, by rw [← e k]; exact h, fun P ρ x y t bb z d D w hx hy ht hd => ?_⟩
    obtain ⟨i, i1, i2, i3, i4, i5⟩ := tyAt_ok ht
    rcases hd with ⟨_, kk, rfl⟩ | ⟨h0, _⟩ | ⟨h0, _⟩
    · rw [show x = .int ka m from hx, show y = .int ka n from hy, run_equalIn_int w D t ka kk m n i5, eqI_eq]
    · cases h0
    · cases h0
  | b =>
    obtain ⟨m, rfl, h⟩ := vB_ok h
    obtain ⟨n, rfl, h⟩ := vB_ok h
    have e : ∀ k' : Bool → Bool, eqCell .b (.b m) (.b n) k' = k' (xor (xor m n) true) := fun k' => by cases m <;> cases n <;> rfl
    refine ⟨_, e, by cases m <;> cases n <;> exact h, fun P ρ x y t bb z d D w hx hy ht hd => ?_⟩
    obtain ⟨i, i1, i2, i3, i4, i5⟩ := tyAt_ok ht
    rcases hd with ⟨h0, _⟩ | ⟨_, rfl⟩ | ⟨h0, _⟩
    · cases h0
    · rw [show x = .bool m from hx, show y = .bool n from hy, run_equalIn_bool' w D t m n i5]
      cases m <;> cases n <;> rfl
    · cases h0
  | s =>
    obtain ⟨la, na, rfl, h⟩ := vS_ok h
    obtain ⟨lb, nb, rfl, h⟩ := vS_ok h
    have e : ∀ k' : Bool → Bool, eqCell .s (.s la na) (.s lb nb) k' = k' (eqS la na lb nb) := fun k' => by
      show boolK (eqS la na lb nb) (fun _ => k' true) (fun _ => k' false) = _
      cases eqS la na lb nb <;> rfl
    refine ⟨_, e, by rw [← e k]; exact h, fun P ρ x y t bb z d D w hx hy ht hd => ?_⟩
    obtain ⟨i, i1, i2, i3, i4, i5⟩ := tyAt_ok ht
    rcases hd with ⟨h0, _⟩ | ⟨h0, _⟩ | ⟨_, rfl⟩
    · cases h0
    · cases h0
    · obtain ⟨bx, rfl, lx, px, sx⟩ := srel hx
      obtain ⟨b', rfl, ly, py, sy⟩ := srel hy
      rw [run_equalIn_string w D t bx b' i5, eqS_pk, lx, px, ly, py]
theorem eqL_ok : ∀ {ks : List KD} {vs ws : List V} {k : Bool → Bool}, eqL ks vs ws k = true → ∃ r, (∀ k', eqL ks vs ws k' = k' r) ∧ k r = true ∧
    ∀ (P : Program) (ρ : Emb) (xs ys : Array Value) (D : Nat) (w : World) (fs : List Field) (n : Nat), kdsOf P fs n = some ks → LRel ρ vs (xs.toList.drop n) → LRel ρ ws (ys.toList.drop n) → (Op.eqFields (D + 1) xs ys fs).run P w = .ok r w
  | [], vs, ws, k, h => by
    refine ⟨true, fun k' => rfl, h, fun P ρ xs ys D w fs n hf _ _ => ?_⟩
    cases fs with
    | nil => rfl
    | cons f r => unfold kdsOf at hf; split at hf <;> cases hf
  | kd :: ks, [], ws, k, h => by exact Bool.noConfusion h
  | kd :: ks, v :: vs, [], k, h => by exact Bool.noConfusion h
  | kd :: ks, v :: vs, u :: us, k, h => by
    have h' : eqCell kd v u (fun r => boolK r (fun _ => eqL ks vs us k) (fun _ => k false)) = true := h
    obtain ⟨r, r1, r2, r3⟩ := eqCell_ok h'
    have main : ∀ (P : Program) (ρ : Emb) (xs ys : Array Value) (D : Nat) (w : World) (fs : List Field) (n : Nat), kdsOf P fs n = some (kd :: ks) → LRel ρ (v :: vs) (xs.toList.drop n) → LRel ρ (u :: us) (ys.toList.drop n) →
        ∃ f q, fs = f :: q ∧ kdsOf P q (n + 1) = some ks ∧ LRel ρ vs (xs.toList.drop (n + 1)) ∧ LRel ρ us (ys.toList.drop (n + 1)) ∧
          (Op.eqFields (D + 1) xs ys fs).run P w = if r = true then (Op.eqFields (D + 1) xs ys q).run P w else .ok false w := by
      intro P ρ xs ys D w fs n hf hx hy
      cases fs with
      | nil => cases hf
      | cons f q =>
        unfold kdsOf at hf
        split at hf
        case h_2 => cases hf
        rename_i kd' ks' e1 e2 e3
        cases hf
        simp only [Bool.and_eq_true] at e1
        have hn : f.name ≠ "_" := by
          intro e; have := e1.1; rw [e] at this; exact absurd this (by decide)
        have ho : f.offset = n := Nat.eq_of_beq_eq_true e1.2
        obtain ⟨bb, z, d, ht, hd⟩ := kdOf_ok e2
        obtain ⟨j, j1, j2, j3, j4, j5⟩ := tyAt_ok ht
        cases hxl : xs.toList.drop n with
        | nil => rw [hxl] at hx; exact hx.elim
        | cons x xr =>
          cases hyl : ys.toList.drop n with
          | nil => rw [hyl] at hy; exact hy.elim
          | cons y yr =>
            rw [hxl] at hx; rw [hyl] at hy
            have gx : xs[f.offset]? = some x := by
              have : (xs.toList.drop n)[0]? = some x := by rw [hxl]; rfl
              rw [List.getElem?_drop] at this
              rw [ho]; simpa using this
            have gy : ys[f.offset]? = some y := by
              have : (ys.toList.drop n)[0]? = some y := by rw [hyl]; rfl
              rw [List.getElem?_drop] at this
              rw [ho]; simpa using this
            have hag : isAggD d = false := by rcases hd with ⟨_, kk, rfl⟩ | ⟨_, rfl⟩ | ⟨_, rfl⟩ <;> rfl
            have dx : xs.toList.drop (n + 1) = xr := by rw [← List.drop_drop, hxl]; rfl
            have dy : ys.toList.drop (n + 1) = yr := by rw [← List.drop_drop, hyl]; rfl
            refine ⟨f, q, rfl, e3, by rw [dx]; exact hx.2, by rw [dy]; exact hy.2, ?_⟩
            have pr := r3 P ρ x y f.type bb z d D w hx.1 hy.1 ht hd
            have px : (part f.type xs f.offset).run P w = .ok x w := by
              rw [run_part j1 j5, hag]; simp only [Bool.false_eq_true, if_false, gx]; try rfl
            have py : (part f.type ys f.offset).run P w = .ok y w := by
              rw [run_part j1 j5, hag]; simp only [Bool.false_eq_true, if_false, gy]; try rfl
            simp only [Op.eqFields, ne_eq, hn, not_false_eq_true, if_true, Sem.run_bind, px, py, pr, Result.andThen_ok]
            cases r
            · simp
            · simp
    cases r with
    | false =>
      refine ⟨false, fun k' => by show eqCell kd v u (fun r => boolK r (fun _ => eqL ks vs us k') (fun _ => k' false)) = _; rw [r1]; rfl, r2, fun P ρ xs ys D w fs n hf hx hy => ?_⟩
      obtain ⟨f, q, _, _, _, _, e⟩ := main P ρ xs ys D w fs n hf hx hy
      rw [e, if_neg (by decide)]
    | true =>
      obtain ⟨s, s1, s2, s3⟩ := eqL_ok r2
      refine ⟨s, fun k' => by show eqCell kd v u (fun r => boolK r (fun _ => eqL ks vs us k') (fun _ => k' false)) = _; rw [r1]; exact s1 k', s2, fun P ρ xs ys D w fs n hf hx hy => ?_⟩
      obtain ⟨f, q, _, hq, hx', hy', e⟩ := main P ρ xs ys D w fs n hf hx hy
      rw [e, if_pos rfl]
      exact s3 P ρ xs ys D w q (n + 1) hq hx' hy'
theorem seq_ok (P : Program) (o : Oper) (ne : Bool) (tx ty : TypeId) (x y : Operand) (fs : Array Field) (ks : List KD) (hu : P.underlying tx = some (.struct fs)) (hks : kdsOf P fs.toList 0 = some ks) (hst : P.stoodInHeld tx = false) (hg : P.eqGuardType P.depth tx = false)
    (h : o.op = .binOp (if ne then .neq else .eql) tx x y ty) : RunOk P o (doSEq ks ne (compO x) (compO y)) := by
  refine RunOk.calm fun cf t hp k hk => ?_
  simp only [doSEq, oE_eq] at hk
  obtain ⟨vs, hv, hk⟩ := vA_ok hk
  obtain ⟨ws, hw, hk⟩ := vA_ok hk
  obtain ⟨r, r1, r2, r3⟩ := eqL_ok hk
  refine ⟨.b (xor ne r), fun k' => by simp only [doSEq, oE_eq, hv, vA_a, hw, r1, fB_eq], fun ρ a A w => ?_⟩
  have hx := (A x (by rw [h]; simp [Op.operands]))
  rw [hv] at hx
  obtain ⟨xs, ex, hx⟩ := hx
  have hy := (A y (by rw [h]; simp [Op.operands]))
  rw [hw] at hy
  obtain ⟨ys, ey, hy⟩ := hy
  refine ⟨.bool (xor ne r), ?_, rfl⟩
  unfold execOp
  rw [h]
  have hfo : P.fieldsOf tx = fs := by unfold Program.fieldsOf; rw [hu]
  have heq : (Op.equalIn 10000 tx (.agg xs) (.agg ys)).run P w = .ok r w := by
    rw [show (10000 : Nat) = 9999 + 1 from rfl, run_equalIn_struct w 9999 tx xs ys (by rw [hfo]; exact hu) hst, hfo]
    exact r3 P ρ xs ys 9998 w fs.toList 0 hks (by simpa using hx) (by simpa using hy)
  cases ne
  · simp only [Bool.false_eq_true, if_false, Sem.run_bind, ex, ey, run_eqGuard_agg w .eql tx x y xs ys hg, Result.andThen_ok, run_eql_struct, heq]
    cases r <;> rfl
  · simp only [if_true, Sem.run_bind, ex, ey, run_eqGuard_agg w .neq tx x y xs ys hg, Result.andThen_ok, run_neq_struct, heq]
    cases r <;> rfl
theorem compSEq_ok (P : Program) (o : Oper) (op : BinOp) (tx ty : TypeId) (x y : Operand) (fs : Array Field) (hu : P.underlying tx = some (.struct fs)) (h : o.op = .binOp op tx x y ty) : RunOk P o (runK (compSEq P tx fs op (compO x) (compO y))) := by
  unfold compSEq
  split
  · rename_i ks e1 e2
    simp only [Bool.and_eq_true, Bool.not_eq_true'] at e1
    cases op <;> try exact no_ok P o
    · exact seq_ok P o false tx ty x y fs ks hu e2 e1.1 e1.2 h
    · exact seq_ok P o true tx ty x y fs ks hu e2 e1.1 e1.2 h
  · exact no_ok P o

theorem binop_ok (P : Program) (o : Oper) (op : BinOp) (tx ty : TypeId) (x y : Operand) (h : o.op = .binOp op tx x y ty) : RunOk P o (runK (compBin P op tx (compO x) (compO y))) := by
  cases ht : tyAt P tx with
  | none => simp only [compBin, ht]; exact no_ok P o
  | some tt =>
    obtain ⟨size, bytes, d, z⟩ := tt
    obtain ⟨i, i1, i2, i3, i4, i5⟩ := tyAt_ok ht
    cases d <;> simp only [compBin, ht] <;> try exact no_ok P o
    · cases op <;> try exact no_ok P o
      · exact bool_ok P o false tx ty x y i5 h
      · exact bool_ok P o true tx ty x y i5 h
    · cases op <;> first
        | exact rem_ok P o tx ty x y h
        | exact shift_ok P o .shl shlF (fun kd a n => kd.wrap (a * 2 ^ n)) (fun kd a n k => shl_eq kd a n k) (.inl rfl) (fun t kd kd' a n => shl_op t kd kd' a n) tx ty x y h
        | exact shift_ok P o .shr shrF (fun kd a n => a.fdiv (2 ^ n)) (fun kd a n k => shr_eq kd a n k) (.inr rfl) (fun t kd kd' a n => shr_op t kd kd' a n) tx ty x y h
        | exact bin2_ok P o _ tx ty x y h
    · exact strop_ok P o op tx ty x y h
    · cases op <;> try exact no_ok P o
      · exact ptr_ok P o false tx _ ty x y i5 h
      · exact ptr_ok P o true tx _ ty x y i5 h
    · cases op <;> try exact no_ok P o
      · exact nil_ok P o vLN false tx ty x y (nilL P tx _ i5) h
      · exact nil_ok P o vLN true tx ty x y (nilL P tx _ i5) h
    · cases op <;> try exact no_ok P o
      · exact nil_ok P o vMN false tx ty x y (nilM P tx _ _ i5) h
      · exact nil_ok P o vMN true tx ty x y (nilM P tx _ _ i5) h
    · exact compSEq_ok P o op tx ty x y _ i5 h

theorem unop_ok (P : Program) (o : Oper) (op : UnOp) (tx : TypeId) (x : Operand) (h : o.op = .unOp op tx x) : RunOk P o (runK (compUn op (compO x))) := by
  cases op <;> simp only [compUn] <;> try exact no_ok P o
  · refine RunOk.calm fun cf t hp k hk => ?_
    simp only [runK_mk, doNeg, oK_eq, oE_eq] at hk
    obtain ⟨kd, n, hn, hk⟩ := vI_ok hk
    refine ⟨.i kd (kd.wrap (0 - n)), fun k' => by simp only [runK_mk, doNeg, oK_eq, oE_eq, hn, vI_i, wrapF_eq]; rw [show Int.neg n = 0 - n by show -n = 0 - n; omega], fun ρ a A w => ?_⟩
    have hx := (A x (by rw [h]; simp [Op.operands]))
    rw [hn] at hx
    have hx' : a.eval x = .int kd n := hx
    refine ⟨.int kd (kd.wrap (0 - n)), ?_, rfl⟩
    unfold execOp
    rw [h]
    simp only [hx', Op.unary, Op.intArith]
    rfl
  · refine RunOk.calm fun cf t hp k hk => ?_
    simp only [runK_mk, doNot, oK_eq, oE_eq] at hk
    obtain ⟨b, hb, hk⟩ := vB_ok hk
    refine ⟨.b (!b), fun k' => by simp only [runK_mk, doNot, oK_eq, oE_eq, hb, vB_b, fB_eq], fun ρ a A w => ?_⟩
    have hx := (A x (by rw [h]; simp [Op.operands]))
    rw [hb] at hx
    have hx' : a.eval x = .bool b := hx
    refine ⟨.bool (!b), ?_, rfl⟩
    unfold execOp
    rw [h]
    simp only [hx', Op.unary]
    rfl

theorem conv_ok (P : Program) (o : Oper) (s d : TypeId) (x : Operand) (h : o.op = .convert s d x) : RunOk P o (runK (compConv P s d (compO x))) := by
  cases hs : tyAt P s with
  | none => simp only [compConv, hs]; exact no_ok P o
  | some st =>
    cases hd : tyAt P d with
    | none => simp only [compConv, hs, hd]; exact no_ok P o
    | some dt =>
      obtain ⟨size, bytes, dd, z⟩ := dt
      obtain ⟨i, i1, i2, i3, i4, i5⟩ := tyAt_ok hd
      obtain ⟨j, j1, j2, j3, j4, j5⟩ := tyAt_ok hs
      obtain ⟨ssize, sbytes, sd, sz⟩ := st
      cases dd <;> try (cases sd <;> simp only [compConv, hs, hd] <;> first | exact no_ok P o | exact strmove_ok P o s d x j5 i5 h | exact b2s_ok P o s d _ x j5 i5 h | exact i2s_ok P o s d _ x j5 i5 h | exact s2b_ok P o s d _ x j5 i5 h | exact p2u_ok P o s d _ x j5 i5 h | exact u2p_ok P o s d _ x j5 i5 h)
      rename_i kd
      have ecv : compConv P s d (compO x) = ⟨doConv kd (compO x)⟩ := by simp only [compConv, hs, hd]
      rw [ecv]
      refine RunOk.calm fun cf t hp k hk => ?_
      simp only [runK_mk, doConv, oK_eq, oE_eq] at hk
      rcases vIR_ok hk with ⟨kd', n, hn, hk⟩ | ⟨kd', m, r, hi, hn, hk⟩
      · refine ⟨.i kd (kd.wrap n), fun k' => by simp only [runK_mk, doConv, oK_eq, oE_eq, hn, vIR_i, wrapF_eq], fun ρ a A w => ?_⟩
        have hx := (A x (by rw [h]; simp [Op.operands]))
        rw [hn] at hx
        have hx' : a.eval x = .int kd' n := hx
        refine ⟨.int kd (kd.wrap n), ?_, rfl⟩
        unfold execOp
        rw [h]
        simp only [hx', convert, Sem.run_bind, run_underlying j5, run_underlying i5, Result.andThen_ok, Conv.intToInt]
        rfl
      · obtain ⟨hb, hk⟩ := ifK_ok hk
        refine ⟨.r kd m r hi, fun k' => by simp only [runK_mk, doConv, oK_eq, oE_eq, hn, vIR_r, hb, ifK_true], fun ρ a A w => ?_⟩
        have hx := (A x (by rw [h]; simp [Op.operands]))
        rw [hn] at hx
        obtain ⟨n, hx', hn1, hn2⟩ := hx
        have hb' : hi ≤ mxOf kd := Nat.le_of_ble_eq_true hb
        refine ⟨.int kd n, ?_, n, rfl, hn1, hn2⟩
        unfold execOp
        rw [h]
        have hw : kd.wrap (n : Int) = n := wrap_small kd n (by omega)
        simp only [hx', convert, Sem.run_bind, run_underlying j5, run_underlying i5, Result.andThen_ok, Conv.intToInt, hw]
        rfl

theorem extract_ok (P : Program) (o : Oper) (x : Operand) (n : Nat) (h : o.op = .extract x n) : RunOk P o (doExtract n (compO x)) := by
  refine RunOk.calm fun cf t hp k hk => ?_
  simp only [doExtract, oK_eq, oE_eq] at hk
  obtain ⟨cs, hv, hk⟩ := vT_ok hk
  obtain ⟨v, hcv, hk⟩ := optK_ok hk
  refine ⟨v, fun k' => by simp only [doExtract, oK_eq, oE_eq, hv, vT_tu, hcv, optK_some, forceV_eq], fun ρ a A w => ?_⟩
  have hx := (A x (by rw [h]; simp [Op.operands]))
  rw [hv] at hx
  obtain ⟨arr, l1, l2⟩ := hx
  obtain ⟨y, y1, y2⟩ := l2.get hcv
  have y1' : arr[n]? = some y := by simpa using y1
  refine ⟨y, ?_, y2⟩
  unfold execOp
  rw [h]
  simp only [l1, Instr.extract, y1']
  rfl

/-! ### Calls -/
theorem run_resolve_value (P : Program) (w : World) (ρ : Operand → Value) (f : FuncId) (args : Array Operand) (tys : Array TypeId) (ty : TypeId) (hf : ρ (.func f) = .func (.func f) #[] #[]) :
    (resolve ρ ⟨.value (.func f), args, tys⟩ ty).run P w = .ok { target := .fn (.func f) #[], args := #[] ++ args.map ρ } w := by
  unfold resolve
  simp only [hf, Deferred.ofValue]
  rfl
theorem call_ok (P : Program) (o : Oper) (f : FuncId) (args : Array Operand) (tys : Array TypeId) (h : o.op = .call ⟨.value (.func f), args, tys⟩) : RunOk P o (doCall f (args.toList.map compO)) := by
  intro cf hcf t hp k hk
  simp only [doCall, evalsK_ok] at hk
  obtain ⟨v, h', h1, h2, h3, h4⟩ := hcf f _ hp k hk
  refine ⟨v, h', fun k' => by simp only [doCall, evalsK_ok, h1], h2, h3, fun ρ a w w0 A R => ?_, fun hs => by rw [h] at hs; exact Bool.noConfusion hs⟩
  obtain ⟨c1, c2⟩ := h4 ρ w w0 _ (ORel.list (os := args.toList) fun x hx => A x (by rw [h]; simp [Op.operands, Call.operands]; exact .inr (by simpa using hx))) R
  refine ⟨.enter f (args.toList.map a.eval).toArray, w, ?_, c2⟩
  unfold execOp
  rw [h]
  simp only [Sem.run_bind, run_resolve_value P w a.eval f args tys o.type rfl, Result.andThen_ok, invoke]
  rw [← c1]
  rw [show ((#[] ++ args.map a.eval) ++ #[] : Array Value) = (args.toList.map a.eval).toArray by apply Array.ext'; simp]

theorem ext_ok (P : Program) (o : Oper) (f : FuncId) (fn : Func) (hf : P.funcs.toList[f]? = some fn) (hb : fn.body = none) (x : Operand) (args : Array Operand) (tys : Array TypeId) (ha : args.toList = [x]) (hn : fn.name = "internal/abi.NoEscape") (ho : fn.origin = "")
    (h : o.op = .call ⟨.value (.func f), args, tys⟩) : RunOk P o (doMove (compO x)) := by
  have hs : still P o.op = false := by rw [h]; rfl
  refine RunOk.pure hs fun cf t hp k hk => ?_
  simp only [doMove, oK_eq] at hk
  refine ⟨oV (compO x) t, fun k' => by simp only [doMove, oK_eq], fun ρ a A w w0 R => ?_⟩
  have mx : x ∈ o.op.operands.toList := by rw [h]; simp [Op.operands, Call.operands, ← Array.mem_toList_iff, ha]
  refine ⟨a.eval x, ?_, A x mx⟩
  have hf' : P.funcs[f]? = some fn := by simpa using hf
  have e1 : Extern.findNext fn = none := by
    unfold Extern.findNext
    simp only [hn, ho]
    rfl
  have e2 : Extern.find fn = some Extern.AbiNoEscape.same := by
    unfold Extern.find
    simp only [hn, ho]
    rfl
  have hc := run_callFunc_extern (P := P) hf' (by rw [hn]; decide) (by rw [hb]; rfl) e1 e2 (args.map a.eval) w
  unfold execOp
  rw [h]
  simp only [Sem.run_bind, run_resolve_value P w a.eval f args tys o.type rfl, Result.andThen_ok, invoke]
  rw [show ((#[] ++ args.map a.eval) ++ #[] : Array Value) = args.map a.eval by simp]
  rw [hc]
  have ea : args.map a.eval = #[a.eval x] := by apply Array.ext'; simp [ha]
  rw [ea, Lib.run_noEscape]
  rfl

end Go.Ev
