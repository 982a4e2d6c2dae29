/-
  The evaluator's operations against the model's: strings, pieces.
-/
import Derived.Test.YtiecpllnbekmoaaEvS
set_option linter.all false
namespace Go.Ev
open Go

/-- a packed string's bytes -/
theorem srel {ρ : Emb} {len n : Nat} {v : Value} (h : VRel ρ (.s len n) v) : ∃ bs : ByteArray, v = .string bs ∧ bs.data.toList.length = len ∧ pk bs.data.toList = n ∧ bs.size = len := by
  obtain ⟨bs, rfl, h1, h2⟩ := h
  rw [foldl_pk0] at h2
  exact ⟨bs, rfl, by simpa using h1, h2, h1⟩
theorem srel_mk {ρ : Emb} {bs : ByteArray} {len n : Nat} (h1 : bs.data.toList.length = len) (h2 : pk bs.data.toList = n) : VRel ρ (.s len n) (.string bs) :=
  ⟨bs, rfl, by simpa using h1, by rw [foldl_pk0]; exact h2⟩

theorem run_eqGuard_str (P : Program) (w : World) (op : BinOp) (t : TypeId) (x y : Operand) (m n : ByteArray) : (eqGuard op t x y (.string m) (.string n)).run P w = .ok () w := by
  unfold eqGuard
  cases op <;> rfl

theorem concat_ok (P : Program) (o : Oper) (tx ty : TypeId) (x y : Operand) (h : o.op = .binOp .add tx x y ty) : RunOk P o (doConcat (compO x) (compO y)) := by
  refine RunOk.calm fun cf t hp k hk => ?_
  simp only [doConcat, oE_eq] at hk
  obtain ⟨la, na, ha, hk2⟩ := vS_ok hk
  obtain ⟨lb, nb, hb, hk3⟩ := vS_ok hk2
  obtain ⟨hl, hk4⟩ := ifK_ok hk3
  have hl' : la + lb ≤ 1048576 := Nat.le_of_ble_eq_true hl
  refine ⟨.s (la + lb) (na * 256 ^ lb + nb), fun k' => by simp only [doConcat, oE_eq, ha, vS_s, hb, hl, ifK_true, fN_eq]; rfl, fun ρ a A w => ?_⟩
  have hx := (A x (by rw [h]; simp [Op.operands]))
  rw [ha] at hx
  obtain ⟨bx, ex, lx, px, sx⟩ := srel hx
  have hy := (A y (by rw [h]; simp [Op.operands]))
  rw [hb] at hy
  obtain ⟨by', ey, ly, py, sy⟩ := srel hy
  refine ⟨.string (bx ++ by'), ?_, srel_mk (by simp [ByteArray.data_append]; simp at lx ly; omega) ?_⟩
  · unfold execOp
    rw [h]
    simp only [Sem.run_bind, ex, ey, run_eqGuard_str, Result.andThen_ok]
    have : (binOp .add tx (.string bx) (.string by')).run P w = .ok (.string (bx ++ by')) w := by
      rw [show binOp .add tx (.string bx) (.string by') = Op.stringOp .add bx by' by simp [binOp]]
      exact run_string_add_sum w bx by' (by omega)
    rw [this]; rfl
  · rw [ByteArray.data_append, Array.toList_append, pk_append, px, py, ly]

def SCmpOk (op : BinOp) (f : Nat → Nat → Nat → Nat → Bool) : Prop := ∀ (P : Program) (w : World) (t : TypeId) (a b : ByteArray),
  (binOp op t (.string a) (.string b)).run P w = .ok (.bool (f a.data.toList.length (pk a.data.toList) b.data.toList.length (pk b.data.toList))) w
theorem scmp_ok (P : Program) (o : Oper) (op : BinOp) (f : Nat → Nat → Nat → Nat → Bool) (hf : SCmpOk op f) (tx ty : TypeId) (x y : Operand) (h : o.op = .binOp op tx x y ty) : RunOk P o (doSCmp f (compO x) (compO y)) := by
  refine RunOk.calm fun cf t hp k hk => ?_
  simp only [doSCmp, oE_eq] at hk
  obtain ⟨la, na, ha, hk2⟩ := vS_ok hk
  obtain ⟨lb, nb, hb, hk3⟩ := vS_ok hk2
  refine ⟨.b (f la na lb nb), fun k' => by simp only [doSCmp, oE_eq, ha, vS_s, hb, fB_eq], fun ρ a A w => ?_⟩
  have hx := (A x (by rw [h]; simp [Op.operands]))
  rw [ha] at hx
  obtain ⟨bx, ex, lx, px, sx⟩ := srel hx
  have hy := (A y (by rw [h]; simp [Op.operands]))
  rw [hb] at hy
  obtain ⟨by', ey, ly, py, sy⟩ := srel hy
  refine ⟨.bool (f la na lb nb), ?_, rfl⟩
  unfold execOp
  rw [h]
  simp only [Sem.run_bind, ex, ey, run_eqGuard_str, Result.andThen_ok, hf P w tx bx by']
  rw [lx, px, ly, py]; rfl
theorem eqS_pk (a b : ByteArray) : (a.toList == b.toList) = eqS a.data.toList.length (pk a.data.toList) b.data.toList.length (pk b.data.toList) := by
  rw [ByteArray.toList_eq, ByteArray.toList_eq, pk_eq]; rfl
theorem ltS_pk (a b : ByteArray) : Op.bytesLess a.toList b.toList = ltS a.data.toList.length (pk a.data.toList) b.data.toList.length (pk b.data.toList) := by
  rw [ByteArray.toList_eq, ByteArray.toList_eq, bytesLess_pk]
theorem strop_ok (P : Program) (o : Oper) (op : BinOp) (tx ty : TypeId) (x y : Operand) (h : o.op = .binOp op tx x y ty) :
    RunOk P o (runK (compBinS op (compO x) (compO y))) := by
  cases op <;> try exact no_ok P o
  · exact concat_ok P o tx ty x y h
  · exact scmp_ok P o .eql _ (fun P w t a b => by simp [binOp, Op.stringOp, eqS_pk]) tx ty x y h
  · exact scmp_ok P o .neq _ (fun P w t a b => by simp [binOp, Op.stringOp, eqS_pk]) tx ty x y h
  · exact scmp_ok P o .lss _ (fun P w t a b => by simp [binOp, Op.stringOp, ltS_pk]) tx ty x y h
  · exact scmp_ok P o .leq _ (fun P w t a b => by simp [binOp, Op.stringOp, ltS_pk, eqS_pk]) tx ty x y h
  · exact scmp_ok P o .gtr _ (fun P w t a b => by simp [binOp, Op.stringOp, ltS_pk, eqS_pk]) tx ty x y h
  · exact scmp_ok P o .geq _ (fun P w t a b => by simp [binOp, Op.stringOp, ltS_pk]) tx ty x y h

theorem indexA_ok (P : Program) (o : Oper) (st : TypeId) (x y : Operand) (h : o.op = .index st x y) (len : Nat) (e : TypeId) (i5 : P.underlying st = some (.array len e)) : RunOk P o (runK (compIndexA len (tyAt P e) (compO x) (compO y))) := by
  cases he : tyAt P e with
  | none => exact no_ok P o
  | some ty =>
    obtain ⟨size, bytes, d, z⟩ := ty
    obtain ⟨j, j1, j2, j3, j4, j5⟩ := tyAt_ok he
    cases hd : isAggD d with
    | true => simp only [compIndexA, hd]; exact no_ok P o
    | false =>
    simp only [compIndexA, hd, runK_mk]
    refine RunOk.calm fun cf t hp k hk => ?_
    simp only [doAIndex, oE_eq] at hk
    obtain ⟨cs, hv, hk⟩ := vA_ok hk
    obtain ⟨kd, m, hm, hk3⟩ := vI_ok hk
    obtain ⟨q, rfl, hk4⟩ := natK_ok hk3
    obtain ⟨hlt, hk5⟩ := ifK_ok hk4
    obtain ⟨v, hcv, hk⟩ := optK_ok hk5
    have hlt' : q < len := Nat.le_of_ble_eq_true hlt
    refine ⟨v, fun k' => by simp only [doAIndex, oE_eq, hv, vA_a, hm, vI_i, natK_ofNat, hlt, ifK_true, hcv, optK_some, forceV_eq], fun ρ a A w => ?_⟩
    have hx := (A x (by rw [h]; simp [Op.operands]))
    rw [hv] at hx
    obtain ⟨arr, l1, l2⟩ := hx
    have hy := (A y (by rw [h]; simp [Op.operands]))
    rw [hm] at hy
    have hy' : a.eval y = .int kd (Int.ofNat q) := hy
    obtain ⟨u, y1, y2⟩ := l2.get hcv
    have y1' : arr[q * j.size]? = some u := by rw [show j.size = size from j2]; have y1 : arr.toList[q * size]? = some u := y1; simpa using y1
    refine ⟨u, ?_, y2⟩
    unfold execOp
    rw [h]
    have h0 : (0 : Int) ≤ Int.ofNat q ∧ Int.ofNat q < (len : Int) := ⟨Int.natCast_nonneg q, by simp; omega⟩
    have hq2 : (Int.ofNat q).toNat = q := rfl
    simp only [run_v, Instr.index, l1, hy', asIntOf, Sem.run_bind, Sem.run_pure', Result.andThen_ok, run_underlying i5, h0, and_self, if_true, hq2, run_sizeOf' j1, run_part j1 j5, hd, Bool.false_eq_true, if_false, y1']
    all_goals rfl

theorem index_ok (P : Program) (o : Oper) (st : TypeId) (x y : Operand) (h : o.op = .index st x y) : RunOk P o (runK (compIndex P st (compO x) (compO y))) := by
  cases ht : tyAt P st with
  | none => simp only [compIndex, ht]; exact no_ok P o
  | some ty =>
    obtain ⟨size, bytes, d, z⟩ := ty
    obtain ⟨i, i1, i2, i3, i4, i5⟩ := tyAt_ok ht
    cases d <;> simp only [compIndex, ht] <;> try exact no_ok P o
    case array len e => exact indexA_ok P o st x y h len e i5
    refine RunOk.calm fun cf t hp k hk => ?_
    simp only [runK_mk, doSIndex, oE_eq] at hk
    obtain ⟨l, n, hv, hk2⟩ := vS_ok hk
    obtain ⟨kd, m, hm, hk3⟩ := vI_ok hk2
    obtain ⟨j, rfl, hk4⟩ := natK_ok hk3
    obtain ⟨hlt, hk5⟩ := ifK_ok hk4
    have hlt' : j < l := Nat.le_of_ble_eq_true hlt
    refine ⟨.i .u8 (Int.ofNat ((n / 256 ^ (l - 1 - j)) % 256)), fun k' => by simp only [runK_mk, doSIndex, oE_eq, hv, vS_s, hm, vI_i, natK_ofNat, hlt, ifK_true, fN_eq]; rfl, fun ρ a A w => ?_⟩
    have hx := (A x (by rw [h]; simp [Op.operands]))
    rw [hv] at hx
    obtain ⟨bx, ex, lx, px, sx⟩ := srel hx
    have hy := (A y (by rw [h]; simp [Op.operands]))
    rw [hm] at hy
    have hy' : a.eval y = .int kd (Int.ofNat j) := hy
    have hjl : j < bx.data.toList.length := by omega
    have hg := pk_get bx.data.toList hjl
    rw [px, lx] at hg
    refine ⟨.int .u8 (Int.ofNat ((n / 256 ^ (l - 1 - j)) % 256)), ?_, rfl⟩
    unfold execOp
    rw [h]
    have hjs : j < bx.size := by omega
    have hb : bx[j]? = some bx[j] := by simp [hjs]
    have hbe : bx[j].toNat = (n / 256 ^ (l - 1 - j)) % 256 := by rw [← hg]; rfl
    simp only [run_v, Instr.index, ex, hy', asIntOf, Sem.run_bind, Sem.run_pure', Result.andThen_ok, run_underlying i5]
    have h0 : (0 : Int) ≤ Int.ofNat j := Int.natCast_nonneg j
    have hj2 : (Int.ofNat j).toNat = j := rfl
    simp only [h0, if_true, hj2, hb, Sem.run_pure', Result.andThen_ok, hbe]
    rfl

theorem bound_ok {od : Option Operand} {d : Nat} {t : F} {k : Nat → Bool} (hk : boundK (od.map compO) d t k = true) : ∃ n, (∀ k', boundK (od.map compO) d t k' = k' n) ∧
    ((od = none ∧ n = d) ∨ ∃ x, od = some x ∧ ∀ ρ (a : Act), VRel ρ (oV (compO x) t) (a.eval x) → ∃ kd, a.eval x = .int kd (Int.ofNat n)) := by
  cases od with
  | none => exact ⟨d, fun _ => rfl, .inl ⟨rfl, rfl⟩⟩
  | some x =>
    have e : ∀ k', boundK ((some x).map compO) d t k' = oE (compO x) t fun v => vI v fun _ n => natK n k' := fun _ => rfl
    rw [e, oE_eq] at hk
    obtain ⟨kd, m, hm, hk2⟩ := vI_ok hk
    obtain ⟨n, rfl, hk3⟩ := natK_ok hk2
    refine ⟨n, fun k' => by rw [e, oE_eq, hm]; rfl, .inr ⟨x, rfl, fun ρ a hr => ?_⟩⟩
    rw [hm] at hr
    exact ⟨kd, hr⟩

theorem run_bound {P : Program} {w : World} {kd : IntKind} {n y : Nat} {c : BoundsCode} (h : n ≤ y) : (Instr.sliceBound (.int kd (Int.ofNat n)) y c).run P w = .ok n w := by
  unfold Instr.sliceBound
  have hc : (0 ≤ Int.ofNat n ∧ Int.ofNat n ≤ (y : Int)) := by constructor <;> simp <;> omega
  simp only [asIntOf, Sem.run_bind, Sem.run_pure', Result.andThen_ok, hc, and_self, if_true]
  rfl

/-- the bounds of a piece -/
theorem run_bounds {P : Program} {w : World} {a : Act} {lo hi : Option Operand} {isS : Bool} {len cap p q : Nat} (hlo : (lo = none ∧ p = 0) ∨ ∃ x, lo = some x ∧ ∃ kd, a.eval x = .int kd (Int.ofNat p))
    (hhi : (hi = none ∧ q = len) ∨ ∃ x, hi = some x ∧ ∃ kd, a.eval x = .int kd (Int.ofNat q)) (hpq : p ≤ q) (hqc : hi.isSome = true → q ≤ cap) :
    (Instr.sliceBounds isS len cap (lo.map a.eval) (hi.map a.eval) none).run P w = .ok (p, q, cap) w := by
  unfold Instr.sliceBounds
  rcases hhi with ⟨rfl, rfl⟩ | ⟨x, rfl, kd, hx⟩
  · rcases hlo with ⟨rfl, rfl⟩ | ⟨y, rfl, kd', hy⟩
    · rfl
    · simp only [Option.map_none, Option.map_some, hy, Sem.run_bind, Sem.run_pure', Result.andThen_ok, run_bound hpq]
  · have hqc' := hqc rfl
    rcases hlo with ⟨rfl, rfl⟩ | ⟨y, rfl, kd', hy⟩
    · simp only [Option.map_none, Option.map_some, hx, Sem.run_bind, Sem.run_pure', Result.andThen_ok, run_bound hqc']
    · simp only [Option.map_none, Option.map_some, hx, hy, Sem.run_bind, Sem.run_pure', Result.andThen_ok, run_bound hqc', run_bound hpq]

theorem run_bounds3 {P : Program} {w : World} {a : Act} {lo : Option Operand} {hi mx : Operand} {isS : Bool} {len cap p q m : Nat} {kh km : IntKind} (hlo : (lo = none ∧ p = 0) ∨ ∃ x, lo = some x ∧ ∃ kd, a.eval x = .int kd (Int.ofNat p))
    (hhi : a.eval hi = .int kh (Int.ofNat q)) (hmx : a.eval mx = .int km (Int.ofNat m)) (hpq : p ≤ q) (hqm : q ≤ m) (hmc : m ≤ cap) :
    (Instr.sliceBounds isS len cap (lo.map a.eval) (some (a.eval hi)) (some (a.eval mx))).run P w = .ok (p, q, m) w := by
  unfold Instr.sliceBounds
  rcases hlo with ⟨rfl, rfl⟩ | ⟨y, rfl, kd', hy⟩
  · simp only [Option.map_none, hhi, hmx, Sem.run_bind, Sem.run_pure', Result.andThen_ok, run_bound hqm, run_bound hmc]
  · simp only [Option.map_some, hhi, hmx, hy, Sem.run_bind, Sem.run_pure', Result.andThen_ok, run_bound hqm, run_bound hpq, run_bound hmc]

theorem bound1_ok {x : Operand} {d : Nat} {t : F} {k : Nat → Bool} (hk : boundK (some (compO x)) d t k = true) : ∃ n, (∀ k', boundK (some (compO x)) d t k' = k' n) ∧
    ∀ ρ (a : Act), VRel ρ (oV (compO x) t) (a.eval x) → ∃ kd, a.eval x = .int kd (Int.ofNat n) := by
  obtain ⟨n, h1, h2⟩ := bound_ok (od := some x) hk
  refine ⟨n, h1, fun ρ a hr => ?_⟩
  rcases h2 with ⟨h2, _⟩ | ⟨y, h2, h3⟩
  · cases h2
  · cases h2; exact h3 ρ a hr

theorem slice3_ok (P : Program) (o : Oper) (st : TypeId) (x : Operand) (lo hi : Option Operand) (mx : Operand) (h : o.op = .slice st x lo hi (some mx)) : RunOk P o (runK (compSliceM P st (compO x) (lo.map compO) (hi.map compO) (compO mx))) := by
  have hlo : ∀ {t : F} {k : Nat → Bool} {d : Nat}, boundK (lo.map compO) d t k = true → ∃ n, (∀ k', boundK (lo.map compO) d t k' = k' n) ∧ ∀ ρ a, ORel ρ t a o.op.operands.toList → ((lo = none ∧ n = d) ∨ ∃ x, lo = some x ∧ ∃ kd, a.eval x = .int kd (Int.ofNat n)) := by
    intro t k d hk
    obtain ⟨n, h1, h2⟩ := bound_ok hk
    refine ⟨n, h1, fun ρ a A => ?_⟩
    rcases h2 with h2 | ⟨x, rfl, h2⟩
    · exact .inl h2
    · exact .inr ⟨x, rfl, h2 ρ a (A x (by rw [h]; simp [Op.operands]))⟩
  cases hi with
  | none =>
    unfold compSliceM
    split
    · unfold compSlice3; split
      · rename_i h2; cases h2
      · exact no_ok P o
    · exact no_ok P o
  | some hi =>
  have mhi : hi ∈ o.op.operands.toList := by rw [h]; simp [Op.operands]
  have mmx : mx ∈ o.op.operands.toList := by rw [h]; simp [Op.operands]
  cases ht : tyAt P st with
  | none => simp only [compSliceM, ht]; exact no_ok P o
  | some ty =>
    obtain ⟨size, bytes, d, z⟩ := ty
    obtain ⟨i, i1, i2, i3, i4, i5⟩ := tyAt_ok ht
    cases d <;> simp only [compSliceM, ht] <;> try exact no_ok P o
    rename_i e
    cases he : tyAt P e with
    | none => exact no_ok P o
    | some ety =>
      obtain ⟨esz, eb, ed, ez⟩ := ety
      obtain ⟨j, j1, j2, j3, j4, j5⟩ := tyAt_ok he
      simp only at j2
      cases hz : Nat.ble 1 esz with
      | false => simp only [compSlice3, Option.map_some, hz]; exact no_ok P o
      | true =>
        simp only [compSlice3, Option.map_some, hz, runK_mk]
        refine RunOk.calm fun cf t hp k hk => ?_
        simp only [doSlice3, oE_eq] at hk
        rcases vL_ok hk with ⟨hv, hk2⟩ | ⟨id, g, off, len, fin, cap, hv, hk2⟩
        · obtain ⟨p, p1, p2⟩ := hlo hk2
          rw [p1] at hk2
          obtain ⟨q, q1, q2⟩ := bound1_ok hk2
          rw [q1] at hk2
          obtain ⟨m, m1, m2⟩ := bound1_ok hk2
          rw [m1] at hk2
          obtain ⟨hp0, hk3⟩ := ifK_ok hk2
          obtain ⟨hq0, hk4⟩ := ifK_ok hk3
          obtain ⟨hm0, hk5⟩ := ifK_ok hk4
          have hp0' : p = 0 := Nat.eq_of_beq_eq_true hp0
          have hq0' : q = 0 := Nat.eq_of_beq_eq_true hq0
          have hm0' : m = 0 := Nat.eq_of_beq_eq_true hm0
          subst hp0'
          subst hq0'
          subst hm0'
          refine ⟨.l0, fun k' => by simp only [doSlice3, oE_eq, hv, vL_l0, p1, q1, m1, hp0, hq0, hm0, ifK_true], fun ρ a A w => ?_⟩
          have hx := (A x (by rw [h]; simp [Op.operands]))
          rw [hv] at hx
          have hx' : a.eval x = .slice none 0 0 := hx
          obtain ⟨kh, hh⟩ := q2 ρ a (A hi mhi)
          obtain ⟨km, hm⟩ := m2 ρ a (A mx mmx)
          refine ⟨.slice none 0 0, ?_, rfl⟩
          unfold execOp
          rw [h]
          have hb := run_bounds3 (P := P) (w := w) (isS := true) (len := 0) (cap := 0) (p2 ρ a A) hh hm (Nat.le_refl _) (Nat.le_refl _) (Nat.le_refl _)
          simp only [run_v, Instr.sliceAt, Option.map_some, Sem.run_bind, run_underlying i5, Result.andThen_ok, Instr.slice, hx', hb, run_sizeOf' j1]
          rfl
        · obtain ⟨p, p1, p2⟩ := hlo hk2
          rw [p1] at hk2
          obtain ⟨q, q1, q2⟩ := bound1_ok hk2
          rw [q1] at hk2
          obtain ⟨m, m1, m2⟩ := bound1_ok hk2
          rw [m1] at hk2
          obtain ⟨hml, hk3⟩ := ifK_ok hk2
          obtain ⟨hpq, hk4⟩ := ifK_ok hk3
          obtain ⟨hqm, hk5⟩ := ifK_ok hk4
          have hpq' : p ≤ q := Nat.le_of_ble_eq_true hpq
          have hqm' : q ≤ m := Nat.le_of_ble_eq_true hqm
          have hml' : m ≤ cap.getD len := Nat.le_of_ble_eq_true hml
          by_cases hpm : p = m
          · have hpmb : Nat.beq p m = true := by rw [hpm]; exact Nat.beq_refl m
            refine ⟨.l id g off 0 fin (some 0), fun k' => by simp only [doSlice3, oE_eq, hv, vL_l, p1, q1, m1, slice3K, hml, hpq, ifK_true, sliceC, hqm, hpmb, boolK_true], fun ρ a A w => ?_⟩
            have hx := (A x (by rw [h]; simp [Op.operands]))
            rw [hv] at hx
            obtain ⟨L, ad, cc, l1, hx', lc, l3, l4, l5, l6, l7⟩ := hx
            have hmc : m ≤ cc := by
              cases cap with
              | none => exact Nat.le_trans hml' lc
              | some c => rw [l6 c rfl]; exact hml'
            obtain ⟨kh, hh⟩ := q2 ρ a (A hi mhi)
            obtain ⟨km, hm⟩ := m2 ρ a (A mx mmx)
            refine ⟨.slice (some ad) (q - p) (m - p), ?_, L, ad, m - p, l1, by rw [show q - p = 0 by omega], by omega, l3, l4, .inl ⟨rfl, .inr rfl⟩, (fun d hd => by cases hd; omega), (fun hd => by cases hd)⟩
            unfold execOp
            rw [h]
            have hb := run_bounds3 (P := P) (w := w) (isS := true) (len := len) (cap := cc) (p2 ρ a A) hh hm hpq' hqm' hmc
            have hmp : m = p := hpm.symm
            simp only [run_v, Instr.sliceAt, Option.map_some, Sem.run_bind, run_underlying i5, Result.andThen_ok, Instr.slice, hx', hb, run_sizeOf' j1]
            rw [if_pos hmp]
            rfl
          · have hpmb : Nat.beq p m = false := by
              cases hx : Nat.beq p m with
              | false => rfl
              | true => exact absurd (Nat.eq_of_beq_eq_true hx) hpm
            refine ⟨.l id g (off + p * esz) (q - p) fin (some (m - p)), fun k' => by simp only [doSlice3, oE_eq, hv, vL_l, p1, q1, m1, slice3K, hml, hpq, ifK_true, sliceC, hqm, hpmb, boolK_false, fN_eq]; rfl, fun ρ a A w => ?_⟩
            have hx := (A x (by rw [h]; simp [Op.operands]))
            rw [hv] at hx
            obtain ⟨L, ad, cc, l1, hx', lc, l3, l4, l5, l6, l7⟩ := hx
            have hmc : m ≤ cc := by
              cases cap with
              | none => exact Nat.le_trans hml' lc
              | some c => rw [l6 c rfl]; exact hml'
            obtain ⟨kh, hh⟩ := q2 ρ a (A hi mhi)
            obtain ⟨km, hm⟩ := m2 ρ a (A mx mmx)
            have hadr : ad = ⟨L.b, off - L.s, none⟩ := by
              rcases l5 with ⟨h0, h1⟩ | h1
              · rcases h1 with h1 | h1
                · subst h1; have : m ≤ len := hml'; omega
                · subst h1; have : m ≤ 0 := hml'; omega
              · exact h1
            subst hadr
            refine ⟨.slice (some ⟨L.b, off + p * esz - L.s, none⟩) (q - p) (m - p), ?_, L, _, m - p, l1, rfl, by omega, by omega, l4, .inr rfl, (fun d hd => by cases hd; rfl), (fun hd => by cases hd)⟩
            unfold execOp
            rw [h]
            have hb := run_bounds3 (P := P) (w := w) (isS := true) (len := len) (cap := cc) (p2 ρ a A) hh hm hpq' hqm' hmc
            have hne : ¬ m = p := fun e => hpm e.symm
            simp only [run_v, Instr.sliceAt, Option.map_some, Sem.run_bind, run_underlying i5, Result.andThen_ok, Instr.slice, hx', hb, run_sizeOf' j1]
            rw [if_neg hne]
            simp only [Option.map_some, j2, add_none]
            rw [show off - L.s + p * esz = off + p * esz - L.s by omega]
            rfl

theorem sliceArr_ok (P : Program) (o : Oper) (st : TypeId) (x : Operand) (lo hi : Option Operand) (h : o.op = .slice st x lo hi none) {n : Nat} {e : TypeId} {bytes sz : Nat} {z : List V} (ht : tyAt P st = some ⟨sz, bytes, .array n e, z⟩) : RunOk P o (runK (compSliceA n (tyAt P e) (compO x) (lo.map compO) (hi.map compO))) := by
  obtain ⟨i, i1, i2, i3, i4, i5⟩ := tyAt_ok ht
  cases he : tyAt P e with
  | none => simp only [compSliceA]; exact no_ok P o
  | some ety =>
    obtain ⟨esz, eb, ed, ez⟩ := ety
    obtain ⟨j, j1, j2, j3, j4, j5⟩ := tyAt_ok he
    simp only at j2
    cases hz : Nat.ble 1 esz with
    | false => simp only [compSliceA, hz]; exact no_ok P o
    | true =>
      simp only [compSliceA, hz, runK_mk]
      refine RunOk.calm fun cf t hp k hk => ?_
      simp only [doSliceArr, oE_eq] at hk
      obtain ⟨id, g, off, fin, hv, hk2⟩ := vP_ok hk
      obtain ⟨p, p1, p2⟩ := bound_ok hk2
      rw [p1] at hk2
      obtain ⟨q, q1, q2⟩ := bound_ok hk2
      rw [q1] at hk2
      obtain ⟨hpq, hk3⟩ := ifK_ok hk2
      have hpq' : p ≤ q := Nat.le_of_ble_eq_true hpq
      have hk4 : (ifK (Nat.ble q n) fun _ => boolK (Nat.beq p n) (fun _ => k (.l id g off 0 fin (some 0)) hp) (fun _ => fN (Nat.sub q p) fun l' => fN (Nat.sub n p) fun c' => fN (Nat.add off (Nat.mul p esz)) fun off' => k (.l id g off' l' fin (some c')) hp)) = true := hk3
      obtain ⟨hqc, hk5⟩ := ifK_ok hk4
      have hqc' : q ≤ n := Nat.le_of_ble_eq_true hqc
      have p2' : ∀ ρ a, ORel ρ t a o.op.operands.toList → ((lo = none ∧ p = 0) ∨ ∃ x, lo = some x ∧ ∃ kd, a.eval x = .int kd (Int.ofNat p)) := fun ρ a A => by
        rcases p2 with p2 | ⟨x, rfl, p2⟩
        · exact .inl p2
        · exact .inr ⟨x, rfl, p2 ρ a (A x (by rw [h]; simp [Op.operands]))⟩
      have q2' : ∀ ρ a, ORel ρ t a o.op.operands.toList → ((hi = none ∧ q = n) ∨ ∃ x, hi = some x ∧ ∃ kd, a.eval x = .int kd (Int.ofNat q)) := fun ρ a A => by
        rcases q2 with q2 | ⟨x, rfl, q2⟩
        · exact .inl q2
        · exact .inr ⟨x, rfl, q2 ρ a (A x (by rw [h]; simp [Op.operands]))⟩
      by_cases hpc : p = n
      · have hpcb : Nat.beq p n = true := by rw [hpc]; exact Nat.beq_refl n
        refine ⟨.l id g off 0 fin (some 0), fun k' => by simp only [doSliceArr, oE_eq, hv, vP_p, p1, q1, hpq, ifK_true]; show sliceC esz id g off n fin n p q _ = _; simp only [sliceC, hqc, hpcb, ifK_true, boolK_true], fun ρ a A w => ?_⟩
        have hx := (A x (by rw [h]; simp [Op.operands]))
        rw [hv] at hx
        obtain ⟨L, l1, hx', l3, l4⟩ := hx
        refine ⟨.slice (some ⟨L.b, off - L.s, none⟩) (q - p) (n - p), ?_, L, _, n - p, l1, by rw [show q - p = 0 by omega], by omega, l3, l4, .inl ⟨rfl, .inr rfl⟩, (fun d hd => by cases hd; omega), (fun hd => by cases hd)⟩
        unfold execOp
        rw [h]
        have hb := run_bounds (P := P) (w := w) (isS := false) (len := n) (cap := n) (p2' ρ a A) (q2' ρ a A) hpq' (fun _ => hqc')
        have hx'' : a.eval x = .pointer (some ⟨L.b, off - L.s, none⟩) := hx'
        simp only [run_v, Instr.sliceAt, Option.map_none, Sem.run_bind, run_underlying i5, Result.andThen_ok, Instr.sureAddr, hx'', Sem.run_pure', hb, run_sizeOf' j1, hpc, if_true]
      · have hpcb : Nat.beq p n = false := by
          cases hx : Nat.beq p n with
          | false => rfl
          | true => exact absurd (Nat.eq_of_beq_eq_true hx) hpc
        refine ⟨.l id g (off + p * esz) (q - p) fin (some (n - p)), fun k' => by simp only [doSliceArr, oE_eq, hv, vP_p, p1, q1, hpq, ifK_true]; show sliceC esz id g off n fin n p q _ = _; simp only [sliceC, hqc, hpcb, ifK_true, boolK_false, fN_eq]; rfl, fun ρ a A w => ?_⟩
        have hx := (A x (by rw [h]; simp [Op.operands]))
        rw [hv] at hx
        obtain ⟨L, l1, hx', l3, l4⟩ := hx
        refine ⟨.slice (some ⟨L.b, off + p * esz - L.s, none⟩) (q - p) (n - p), ?_, L, _, n - p, l1, rfl, by omega, by omega, l4, .inr rfl, (fun d hd => by cases hd; rfl), (fun hd => by cases hd)⟩
        unfold execOp
        rw [h]
        have hb := run_bounds (P := P) (w := w) (isS := false) (len := n) (cap := n) (p2' ρ a A) (q2' ρ a A) hpq' (fun _ => hqc')
        have hne : ¬ n = p := fun e => hpc e.symm
        have hx'' : a.eval x = .pointer (some ⟨L.b, off - L.s, none⟩) := hx'
        simp only [run_v, Instr.sliceAt, Option.map_none, Sem.run_bind, run_underlying i5, Result.andThen_ok, Instr.sureAddr, hx'', Sem.run_pure', hb, run_sizeOf' j1, hne, if_false, j2, add_none]
        rw [show off - L.s + p * esz = off + p * esz - L.s by omega]

theorem slice_ok (P : Program) (o : Oper) (st : TypeId) (x : Operand) (lo hi mx : Option Operand) (h : o.op = .slice st x lo hi mx) : RunOk P o (runK (compSlice P st (compO x) (lo.map compO) (hi.map compO) mx)) := by
  cases mx with
  | some m => simp only [compSlice]; exact slice3_ok P o st x lo hi m h
  | none =>
  have hlo : ∀ {t : F} {k : Nat → Bool} {d : Nat}, boundK (lo.map compO) d t k = true → ∃ n, (∀ k', boundK (lo.map compO) d t k' = k' n) ∧ ∀ ρ a, ORel ρ t a o.op.operands.toList → ((lo = none ∧ n = d) ∨ ∃ x, lo = some x ∧ ∃ kd, a.eval x = .int kd (Int.ofNat n)) := by
    intro t k d hk
    obtain ⟨n, h1, h2⟩ := bound_ok hk
    refine ⟨n, h1, fun ρ a A => ?_⟩
    rcases h2 with h2 | ⟨x, rfl, h2⟩
    · exact .inl h2
    · exact .inr ⟨x, rfl, h2 ρ a (A x (by rw [h]; simp [Op.operands]))⟩
  have hhi : ∀ {t : F} {k : Nat → Bool} {d : Nat}, boundK (hi.map compO) d t k = true → ∃ n, (∀ k', boundK (hi.map compO) d t k' = k' n) ∧ ∀ ρ a, ORel ρ t a o.op.operands.toList → ((hi = none ∧ n = d) ∨ ∃ x, hi = some x ∧ ∃ kd, a.eval x = .int kd (Int.ofNat n)) := by
    intro t k d hk
    obtain ⟨n, h1, h2⟩ := bound_ok hk
    refine ⟨n, h1, fun ρ a A => ?_⟩
    rcases h2 with h2 | ⟨x, rfl, h2⟩
    · exact .inl h2
    · exact .inr ⟨x, rfl, h2 ρ a (A x (by rw [h]; simp [Op.operands]))⟩
  cases ht : tyAt P st with
  | none => simp only [compSlice, ht]; exact no_ok P o
  | some ty =>
    obtain ⟨size, bytes, d, z⟩ := ty
    obtain ⟨i, i1, i2, i3, i4, i5⟩ := tyAt_ok ht
    cases d <;> try (simp only [compSlice, ht]; exact no_ok P o)
    case array n e => simp only [compSlice, ht]; exact sliceArr_ok P o st x lo hi h ht
    · -- a string
      simp only [compSlice, ht, runK_mk]
      refine RunOk.calm fun cf t hp k hk => ?_
      simp only [doSSlice, oE_eq] at hk
      obtain ⟨l, n, hv, hk2⟩ := vS_ok hk
      obtain ⟨p, p1, p2⟩ := hlo hk2
      rw [p1] at hk2
      obtain ⟨q, q1, q2⟩ := hhi hk2
      rw [q1] at hk2
      obtain ⟨hpq, hk3⟩ := ifK_ok hk2
      obtain ⟨hql, hk4⟩ := ifK_ok hk3
      have hpq' : p ≤ q := Nat.le_of_ble_eq_true hpq
      have hql' : q ≤ l := Nat.le_of_ble_eq_true hql
      refine ⟨.s (q - p) ((n / 256 ^ (l - q)) % 256 ^ (q - p)), fun k' => by simp only [doSSlice, oE_eq, hv, vS_s, p1, q1, hpq, hql, ifK_true, fN_eq]; rfl, fun ρ a A w => ?_⟩
      have hx := (A x (by rw [h]; simp [Op.operands]))
      rw [hv] at hx
      obtain ⟨bx, ex, lx, px, sx⟩ := srel hx
      have e1 : (bx.extract p q).data.toList = (bx.data.toList.take q).drop p := by
        rw [ByteArray.data_extract, Array.toList_extract, List.extract_eq_take_drop]
        rw [List.drop_take]
      refine ⟨.string (bx.extract p q), ?_, srel_mk (by rw [e1]; simp; simp at lx; omega) (by rw [e1, pk_part _ hpq' (by omega), px, lx])⟩
      unfold execOp
      rw [h]
      have hb := run_bounds (P := P) (w := w) (isS := false) (len := l) (cap := l) (p2 ρ a A) (q2 ρ a A) hpq' (fun _ => hql')
      simp only [run_v, Instr.sliceAt, Option.map_none, Sem.run_bind, run_underlying i5, Result.andThen_ok, Instr.slice, ex, Option.isSome_none, Bool.false_eq_true, if_false, sx, hb]
      rfl
    · rename_i e
      cases he : tyAt P e with
      | none => simp only [compSlice, ht, he]; exact no_ok P o
      | some ety =>
        obtain ⟨esz, eb, ed, ez⟩ := ety
        obtain ⟨j, j1, j2, j3, j4, j5⟩ := tyAt_ok he
        simp only at j2
        cases hz : Nat.ble 1 esz with
        | false => simp only [compSlice, ht, he, hz]; exact no_ok P o
        | true =>
          simp only [compSlice, ht, he, hz, runK_mk]
          refine RunOk.calm fun cf t hp k hk => ?_
          simp only [doSlice, oE_eq] at hk
          rcases vL_ok hk with ⟨hv, hk2⟩ | ⟨id, g, off, len, fin, cap, hv, hk2⟩
          · obtain ⟨p, p1, p2⟩ := hlo hk2
            rw [p1] at hk2
            obtain ⟨q, q1, q2⟩ := hhi hk2
            rw [q1] at hk2
            obtain ⟨hp0, hk3⟩ := ifK_ok hk2
            obtain ⟨hq0, hk4⟩ := ifK_ok hk3
            have hp0' : p = 0 := Nat.eq_of_beq_eq_true hp0
            have hq0' : q = 0 := Nat.eq_of_beq_eq_true hq0
            subst hp0'
            subst hq0'
            refine ⟨.l0, fun k' => by simp only [doSlice, oE_eq, hv, vL_l0, p1, q1, hp0, hq0, ifK_true], fun ρ a A w => ?_⟩
            have hx := (A x (by rw [h]; simp [Op.operands]))
            rw [hv] at hx
            have hx' : a.eval x = .slice none 0 0 := hx
            refine ⟨.slice none 0 0, ?_, rfl⟩
            unfold execOp
            rw [h]
            have hb := run_bounds (P := P) (w := w) (isS := true) (len := 0) (cap := 0) (p2 ρ a A) (q2 ρ a A) (Nat.le_refl _) (fun _ => Nat.le_refl _)
            simp only [run_v, Instr.sliceAt, Option.map_none, Sem.run_bind, run_underlying i5, Result.andThen_ok, Instr.slice, hx', hb, run_sizeOf' j1]
            rfl
          · obtain ⟨p, p1, p2⟩ := hlo hk2
            rw [p1] at hk2
            obtain ⟨q, q1, q2⟩ := hhi hk2
            rw [q1] at hk2
            obtain ⟨hpq, hk3⟩ := ifK_ok hk2
            have hpq' : p ≤ q := Nat.le_of_ble_eq_true hpq
            cases cap with
            | some c =>
              have hk4 : (ifK (Nat.ble q c) fun _ => boolK (Nat.beq p c) (fun _ => k (.l id g off 0 fin (some 0)) hp) (fun _ => fN (Nat.sub q p) fun l' => fN (Nat.sub c p) fun c' => fN (Nat.add off (Nat.mul p esz)) fun off' => k (.l id g off' l' fin (some c')) hp)) = true := hk3
              obtain ⟨hqc, hk5⟩ := ifK_ok hk4
              have hqc' : q ≤ c := Nat.le_of_ble_eq_true hqc
              by_cases hpc : p = c
              · have hpcb : Nat.beq p c = true := by rw [hpc]; exact Nat.beq_refl c
                refine ⟨.l id g off 0 fin (some 0), fun k' => by simp only [doSlice, oE_eq, hv, vL_l, p1, q1, hpq, ifK_true]; show sliceC esz id g off len fin c p q _ = _; simp only [sliceC, hqc, hpcb, ifK_true, boolK_true], fun ρ a A w => ?_⟩
                have hx := (A x (by rw [h]; simp [Op.operands]))
                rw [hv] at hx
                obtain ⟨L, ad, cc, l1, hx', lc, l3, l4, l5, l6, l7⟩ := hx
                have hcc : cc = c := l6 c rfl
                subst hcc
                refine ⟨.slice (some ad) (q - p) (cc - p), ?_, L, ad, cc - p, l1, by rw [show q - p = 0 by omega], by omega, l3, l4, .inl ⟨rfl, .inr rfl⟩, (fun d hd => by cases hd; omega), (fun hd => by cases hd)⟩
                unfold execOp
                rw [h]
                have hb := run_bounds (P := P) (w := w) (isS := true) (len := len) (cap := cc) (p2 ρ a A) (q2 ρ a A) hpq' (fun _ => hqc')
                simp only [run_v, Instr.sliceAt, Option.map_none, Sem.run_bind, run_underlying i5, Result.andThen_ok, Instr.slice, hx', hb, run_sizeOf' j1, hpc, if_true]
                rfl
              · have hpcb : Nat.beq p c = false := by
                  cases hx : Nat.beq p c with
                  | false => rfl
                  | true => exact absurd (Nat.eq_of_beq_eq_true hx) hpc
                refine ⟨.l id g (off + p * esz) (q - p) fin (some (c - p)), fun k' => by simp only [doSlice, oE_eq, hv, vL_l, p1, q1, hpq, ifK_true]; show sliceC esz id g off len fin c p q _ = _; simp only [sliceC, hqc, hpcb, ifK_true, boolK_false, fN_eq]; rfl, fun ρ a A w => ?_⟩
                have hx := (A x (by rw [h]; simp [Op.operands]))
                rw [hv] at hx
                obtain ⟨L, ad, cc, l1, hx', lc, l3, l4, l5, l6, l7⟩ := hx
                have hcc : cc = c := l6 c rfl
                subst hcc
                have hadr : ad = ⟨L.b, off - L.s, none⟩ := by
                  rcases l5 with ⟨h0, h1⟩ | h1
                  · rcases h1 with h1 | h1
                    · cases h1
                    · cases h1; omega
                  · exact h1
                subst hadr
                refine ⟨.slice (some ⟨L.b, off + p * esz - L.s, none⟩) (q - p) (cc - p), ?_, L, _, cc - p, l1, rfl, by omega, by omega, l4, .inr rfl, (fun d hd => by cases hd; rfl), (fun hd => by cases hd)⟩
                unfold execOp
                rw [h]
                have hb := run_bounds (P := P) (w := w) (isS := true) (len := len) (cap := cc) (p2 ρ a A) (q2 ρ a A) hpq' (fun _ => hqc')
                have hne : ¬ cc = p := fun e => hpc e.symm
                simp only [run_v, Instr.sliceAt, Option.map_none, Sem.run_bind, run_underlying i5, Result.andThen_ok, Instr.slice, hx', hb, run_sizeOf' j1, hne, if_false, Option.map_some, j2, add_none]
                rw [show off - L.s + p * esz = off + p * esz - L.s by omega]
                rfl
            | none =>
              have hk4 : (ifK (Nat.ble q len) fun _ => ifK (Nat.beq fin (Nat.add off (Nat.mul len esz))) fun _ => fN (Nat.sub q p) fun l' => fN (Nat.add off (Nat.mul p esz)) fun off' => fN (Nat.add off (Nat.mul q esz)) fun fin' => k (.l id g off' l' fin' none) hp) = true := hk3
              obtain ⟨hqc, hk5⟩ := ifK_ok hk4
              obtain ⟨hfin, hk6⟩ := ifK_ok hk5
              have hqc' : q ≤ len := Nat.le_of_ble_eq_true hqc
              have hfin' : fin = off + len * esz := Nat.eq_of_beq_eq_true hfin
              refine ⟨.l id g (off + p * esz) (q - p) (off + q * esz) none, fun k' => by simp only [doSlice, oE_eq, hv, vL_l, p1, q1, hpq, ifK_true]; show sliceN esz id g off len fin p q _ = _; simp only [sliceN, hqc, hfin, ifK_true, fN_eq]; rfl, fun ρ a A w => ?_⟩
              have hx := (A x (by rw [h]; simp [Op.operands]))
              rw [hv] at hx
              obtain ⟨L, ad, cc, l1, hx', lc, l3, l4, l5, l6, l7⟩ := hx
              have hle1 : q * esz ≤ len * esz := Nat.mul_le_mul_right _ hqc'
              have hle2 : p * esz ≤ q * esz := Nat.mul_le_mul_right _ hpq'
              have hb := run_bounds (P := P) (w := w) (isS := true) (len := len) (cap := cc) (p2 ρ a A) (q2 ρ a A) hpq' (fun _ => by omega)
              refine ⟨.slice (if cc = p then some ad else some (ad.add (p * esz))) (q - p) (cc - p), ?_, ?_⟩
              · unfold execOp
                rw [h]
                simp only [run_v, Instr.sliceAt, Option.map_none, Sem.run_bind, run_underlying i5, Result.andThen_ok, Instr.slice, hx', hb, run_sizeOf' j1, j2, Option.map_some]
                rfl
              · by_cases hpc : cc = p
                · rw [if_pos hpc]
                  refine ⟨L, ad, cc - p, l1, rfl, by omega, by omega, by omega, .inl ⟨by omega, .inl rfl⟩, (fun d hd => by cases hd), (fun _ => .inl (by omega))⟩
                · rw [if_neg hpc]
                  by_cases hqp : q - p = 0
                  · exact ⟨L, _, cc - p, l1, rfl, by omega, by omega, by omega, .inl ⟨hqp, .inl rfl⟩, (fun d hd => by cases hd), (fun _ => .inl hqp)⟩
                  · have hadr : ad = ⟨L.b, off - L.s, none⟩ := by
                      rcases l5 with ⟨h0, h1⟩ | h1
                      · omega
                      · exact h1
                    subst hadr
                    obtain ⟨zz, z1, z2, z3⟩ : ∃ z, 1 ≤ z ∧ fin = off + len * z ∧ off - L.s + cc * z ≤ L.cs := by
                      rcases l7 rfl with h0 | h0
                      · omega
                      · exact h0
                    have hzz : zz = esz := by
                      have : len * zz = len * esz := by omega
                      exact Nat.eq_of_mul_eq_mul_left (by omega) this
                    subst hzz
                    have hpcc : p ≤ cc := by omega
                    have e3 : (cc - p) * zz = cc * zz - p * zz := Nat.sub_mul _ _ _
                    have e4 : (q - p) * zz = q * zz - p * zz := Nat.sub_mul _ _ _
                    have e5 : p * zz ≤ cc * zz := Nat.mul_le_mul_right _ hpcc
                    exact ⟨L, _, cc - p, l1, rfl, by omega, by omega, by omega, .inr (by rw [add_none]; rw [show off - L.s + p * zz = off + p * zz - L.s by omega]), (fun d hd => by cases hd), (fun _ => .inr ⟨zz, z1, by omega, by omega⟩)⟩

theorem strmove_ok (P : Program) (o : Oper) (s d : TypeId) (x : Operand) (hs : P.underlying s = some .string) (hd : P.underlying d = some .string) (h : o.op = .convert s d x) : RunOk P o (doMoveS (compO x)) := by
  refine RunOk.calm fun cf t hp k hk => ?_
  simp only [doMoveS, oE_eq] at hk
  obtain ⟨l, n, hv, hk2⟩ := vS_ok hk
  refine ⟨.s l n, fun k' => by simp only [doMoveS, oE_eq, hv, vS_s], fun ρ a A w => ?_⟩
  have hx := (A x (by rw [h]; simp [Op.operands]))
  rw [hv] at hx
  have hx0 := hx
  obtain ⟨bx, ex, lx, px, sx⟩ := srel hx
  refine ⟨.string bx, ?_, by rw [← ex]; exact hx0⟩
  unfold execOp
  rw [h]
  simp only [ex, convert, Sem.run_bind, run_underlying hs, run_underlying hd, Result.andThen_ok]
  rfl

theorem byteK_ok {v : V} {k : Nat → Bool} (h : byteK v k = true) : ∃ n, v = .i .u8 (Int.ofNat n) ∧ n ≤ 255 ∧ (∀ k', byteK v k' = k' n) ∧ k n = true := by
  obtain ⟨kd, m, rfl, h2⟩ := vI_ok h
  obtain ⟨hk, h3⟩ := ifK_ok h2
  have hkd := kdEq_ok hk
  subst hkd
  obtain ⟨n, rfl, h4⟩ := natK_ok h3
  obtain ⟨hn, h5⟩ := ifK_ok h4
  exact ⟨n, rfl, Nat.le_of_ble_eq_true hn, fun k' => by simp only [byteK, vI_i, hk, ifK_true, natK_ofNat, hn], h5⟩
theorem packK_ok : ∀ (vs : List V) (acc : Nat) (k : Nat → Bool), packK vs acc k = true → ∃ bs : List UInt8, vs = bs.map (fun c => V.i .u8 (Int.ofNat c.toNat)) ∧ ∀ k', packK vs acc k' = k' (acc * 256 ^ bs.length + pk bs)
  | [], acc, k, _ => ⟨[], rfl, fun k' => by show fN acc k' = _; rw [fN_eq]; simp [pk]⟩
  | v :: vs, acc, k, h => by
    have e : ∀ k', packK (v :: vs) acc k' = byteK v fun c => fN (Nat.add (Nat.mul acc 256) c) fun acc => packK vs acc k' := fun _ => rfl
    rw [e] at h
    obtain ⟨n, rfl, hn, h1, h2⟩ := byteK_ok h
    rw [fN_eq] at h2
    obtain ⟨bs, rfl, h3⟩ := packK_ok vs _ k h2
    have hc : (UInt8.ofNat n).toNat = n := by simp; omega
    refine ⟨UInt8.ofNat n :: bs, by simp only [List.map_cons, hc], fun k' => ?_⟩
    rw [e, h1, fN_eq, h3]
    congr 1
    show (acc * 256 + n) * 256 ^ bs.length + pk bs = acc * 256 ^ (bs.length + 1) + ((UInt8.ofNat n).toNat * 256 ^ bs.length + pk bs)
    rw [hc, Nat.add_mul, Nat.pow_succ, Nat.mul_assoc, Nat.mul_comm 256, Nat.add_assoc]

theorem push_fold : ∀ (ns : List UInt8) (s : ByteArray), ((ns.map fun c => (Int.ofNat c.toNat)).foldl (fun r n => r.push (UInt8.ofNat n.toNat)) s).data.toList = s.data.toList ++ ns
  | [], s => by simp
  | c :: ns, s => by
    rw [List.map_cons, List.foldl_cons, push_fold ns]
    have : (s.push (UInt8.ofNat (Int.ofNat c.toNat).toNat)).data.toList = s.data.toList ++ [c] := by
      show (s.data.push _).toList = _
      simp
    rw [this]; simp

theorem b2s_ok (P : Program) (o : Oper) (s d e : TypeId) (x : Operand) (hs : P.underlying s = some (.slice e)) (hd : P.underlying d = some .string) (h : o.op = .convert s d x) :
    RunOk P o (runK (compB2S (tyAt P e) (compO x))) := by
  unfold compB2S
  split
  · rename_i b z he
    obtain ⟨j, j1, j2, j3, j4, j5⟩ := tyAt_ok he
    refine RunOk.pure (by rw [h]; rfl) fun cf t hp k hk => ?_
    simp only [runK_mk, doB2S, oE_eq] at hk
    rcases vL_ok hk with ⟨hv, hk2⟩ | ⟨id, g, off, len, fin, cap, hv, hk2⟩
    · refine ⟨.s 0 0, fun k' => by simp only [runK_mk, doB2S, oE_eq, hv, vL_l0], fun ρ a A w w0 R => ?_⟩
      have hx := (A x (by rw [h]; simp [Op.operands]))
      rw [hv] at hx
      have hx' : a.eval x = .slice none 0 0 := hx
      refine ⟨.string .empty, ?_, srel_mk rfl rfl⟩
      unfold execOp
      rw [h]
      simp only [hx', convert, Sem.run_bind, run_underlying hs, run_underlying hd, run_underlying j5, Result.andThen_ok]
      rfl
    · obtain ⟨vs, h1, h2, h3⟩ := loadN_ok hk2
      rw [h1] at hk2
      obtain ⟨bs, rfl, h4⟩ := packK_ok _ _ _ hk2
      have hbl : bs.length = len := by simpa using h2
      refine ⟨.s len (pk bs), fun k' => by simp only [runK_mk, doB2S, oE_eq, hv, vL_l, h1, h4]; simp, fun ρ a A w w0 R => ?_⟩
      have hx := (A x (by rw [h]; simp [Op.operands]))
      rw [hv] at hx
      obtain ⟨L, ad, cc, l1, hx', lc, l3, l4, l5, l6, l7⟩ := hx
      obtain ⟨xs, x1, x2, x3⟩ := h3 ρ w w0 L R l1 l3 l4
      have hxs : ∀ (bs : List UInt8) (xs : List Value), LRel ρ (bs.map fun c => V.i .u8 (Int.ofNat c.toNat)) xs → xs = (bs.map fun c => Int.ofNat c.toNat).map (Value.int .u8) := by
        intro bs
        induction bs with
        | nil => intro xs hx; cases xs <;> first | rfl | exact hx.elim
        | cons c bs ih =>
          intro xs hx
          cases xs with
          | nil => exact hx.elim
          | cons y ys =>
            have h1 : y = .int .u8 (Int.ofNat c.toNat) := hx.1
            rw [h1, ih ys hx.2]; rfl
      have hx1 := hxs bs xs x1
      have hload : (loadCells ad len).run P w = .ok ((bs.map fun c => Int.ofNat c.toNat).map (Value.int .u8)).toArray w := by
        rcases l5 with ⟨h0, _⟩ | h0
        · subst h0
          have : bs = [] := List.eq_nil_of_length_eq_zero hbl
          subst this; rfl
        · rw [h0, ← hx1]; exact x2 P
      refine ⟨.string ((bs.map fun c => Int.ofNat c.toNat).foldl (fun r n => r.push (UInt8.ofNat n.toNat)) ByteArray.empty), ?_, srel_mk ?_ ?_⟩
      · unfold execOp
        rw [h]
        have := run_bytesToString w ad len cc _ hload
        simp only [hx', convert, Sem.run_bind, run_underlying hs, run_underlying hd, run_underlying j5, Result.andThen_ok, this]
        rfl
      · rw [push_fold]; simpa using hbl
      · rw [push_fold]; rfl
  · exact no_ok P o

end Go.Ev
