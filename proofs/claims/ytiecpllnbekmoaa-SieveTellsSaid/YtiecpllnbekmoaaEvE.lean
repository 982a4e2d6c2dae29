/-
  The evaluator's operations against the model's: places, parts, arithmetic.
-/
import Derived.Test.YtiecpllnbekmoaaEvD
set_option linter.all false
namespace Go.Ev
open Go

@[simp] theorem runK_mk (r : Run) : runK ⟨r⟩ = r := rfl

theorem fieldAddr_ok (P : Program) (o : Oper) (st : TypeId) (x : Operand) (n : Nat) (h : o.op = .fieldAddr st x n) : RunOk P o (runK (compFieldAddr P (tyAt P st) n (compO x))) := by
  cases ht : tyAt P st with
  | none => exact no_ok P o
  | some ty =>
    obtain ⟨size, bytes, d, z⟩ := ty
    cases d <;> try exact no_ok P o
    rename_i fs
    obtain ⟨i, i1, i2, i3, i4, i5⟩ := tyAt_ok ht
    cases hf : fs.toList[n]? with
    | none => simp only [compFieldAddr, hf]; exact no_ok P o
    | some f =>
      cases hft : tyAt P f.type with
      | none => simp only [compFieldAddr, hf, hft]; exact no_ok P o
      | some fty =>
        obtain ⟨fsz, fb, fd, fz⟩ := fty
        cases fsz with
        | zero => simp only [compFieldAddr, hf, hft]; exact no_ok P o
        | succ fsz =>
          simp only [compFieldAddr, hf, hft, runK_mk]
          obtain ⟨j, j1, j2, j3, j4, j5⟩ := tyAt_ok hft
          refine RunOk.calm fun cf t hp k hk => ?_
          simp only [doFieldAddr, oK_eq, oE_eq] at hk
          obtain ⟨id, g, off, fin, hv, hk⟩ := vP_ok hk
          refine ⟨.p id g (off + f.offset) fin, fun k' => by simp only [doFieldAddr, oK_eq, oE_eq, hv, vP_p, fN_eq]; rfl, fun ρ a A w => ?_⟩
          have hx := (A x (by rw [h]; simp [Op.operands]))
          rw [hv] at hx
          obtain ⟨L, l1, l2, l3, l4⟩ := hx
          have hf' : fs[n]? = some f := by simpa using hf
          refine ⟨.pointer (some ⟨L.b, off + f.offset - L.s, none⟩), ?_, L, l1, rfl, by omega, l4⟩
          unfold execOp
          rw [h]
          have hz : ¬ (j.size = 0) := by rw [j2]; simp
          simp only [run_v, Instr.fieldAt, l2, Sem.run_bind, run_underlying i5, Result.andThen_ok, hf', sureAddr_run, fieldPlace, run_sizeOf' j1, hz, if_false]
          simp only [add_none, show off - L.s + f.offset = off + f.offset - L.s by omega]
          rfl

theorem run_part {P : Program} {t : TypeId} {i : TypeInfo} {d : TypeDesc} (hi : P.info? t = some i) (hu : P.underlying t = some d) (cs : Array Value) (off : Nat) (w : World) :
    (part t cs off).run P w = if isAggD d then .ok (.agg (cs.extract off (off + i.size))) w else match cs[off]? with
      | some v => .ok v w
      | none => (stuck "part: no such cell" : Sem Value).run P w := by
  unfold part
  simp only [Sem.run_bind, run_isAgg hu, Result.andThen_ok]
  cases isAggD d with
  | true => simp only [if_true, Sem.run_bind, run_sizeOf' hi, Result.andThen_ok]; rfl
  | false => simp only [Bool.false_eq_true, if_false]; cases cs[off]? <;> rfl

theorem extract_list (cs : Array Value) (off n : Nat) : (cs.extract off (off + n)).toList = (cs.toList.drop off).take n := by
  simp only [Array.toList_extract, List.extract_eq_take_drop, Nat.add_sub_cancel_left]

theorem field_ok (P : Program) (o : Oper) (st : TypeId) (x : Operand) (n : Nat) (h : o.op = .field st x n) : RunOk P o (runK (compField P (tyAt P st) n (compO x))) := by
  cases ht : tyAt P st with
  | none => exact no_ok P o
  | some ty =>
    obtain ⟨size, bytes, d, z⟩ := ty
    cases d <;> try exact no_ok P o
    rename_i fs
    obtain ⟨i, i1, i2, i3, i4, i5⟩ := tyAt_ok ht
    cases hf : fs.toList[n]? with
    | none => simp only [compField, hf]; exact no_ok P o
    | some f =>
      cases hft : tyAt P f.type with
      | none => simp only [compField, hf, hft]; exact no_ok P o
      | some fty =>
        obtain ⟨fsz, fb, fd, fz⟩ := fty
        obtain ⟨j, j1, j2, j3, j4, j5⟩ := tyAt_ok hft
        have hf' : fs[n]? = some f := by simpa using hf
        cases hd : isAggD fd with
        | true =>
          simp only [compField, hf, hft, hd, runK_mk]
          refine RunOk.calm fun cf t hp k hk => ?_
          simp only [doFieldA, oK_eq, oE_eq] at hk
          obtain ⟨cs, hv, hk⟩ := vA_ok hk
          refine ⟨.a ((cs.drop f.offset).take fsz), fun k' => by simp only [doFieldA, oK_eq, oE_eq, hv, vA_a], fun ρ a A w => ?_⟩
          have hx := (A x (by rw [h]; simp [Op.operands]))
          rw [hv] at hx
          obtain ⟨arr, l1, l2⟩ := hx
          refine ⟨.agg (arr.extract f.offset (f.offset + j.size)), ?_, _, rfl, ?_⟩
          · unfold execOp
            rw [h]
            simp only [run_v, Instr.field, l1, Sem.run_bind, run_underlying i5, Result.andThen_ok, hf', asAgg, Sem.run_pure', run_part j1 j5, hd, if_true]
            all_goals rfl
          · rw [extract_list, j2]
            exact (l2.drop _).take _
        | false =>
          simp only [compField, hf, hft, hd, runK_mk]
          refine RunOk.calm fun cf t hp k hk => ?_
          simp only [doField, oK_eq, oE_eq] at hk
          obtain ⟨cs, hv, hk⟩ := vA_ok hk
          obtain ⟨v, hcv, hk⟩ := optK_ok hk
          refine ⟨v, fun k' => by simp only [doField, oK_eq, oE_eq, hv, vA_a, hcv, optK_some, forceV_eq], fun ρ a A w => ?_⟩
          have hx := (A x (by rw [h]; simp [Op.operands]))
          rw [hv] at hx
          obtain ⟨arr, l1, l2⟩ := hx
          obtain ⟨y, y1, y2⟩ := l2.get hcv
          have y1' : arr[f.offset]? = some y := by simpa using y1
          refine ⟨y, ?_, y2⟩
          unfold execOp
          rw [h]
          simp only [run_v, Instr.field, l1, Sem.run_bind, run_underlying i5, Result.andThen_ok, hf', asAgg, Sem.run_pure', run_part j1 j5, hd, Bool.false_eq_true, if_false, y1']
          all_goals rfl

theorem indexAddr_ok (P : Program) (o : Oper) (st : TypeId) (x y : Operand) (h : o.op = .indexAddr st x y) : RunOk P o (runK (compIndexAddr P (tyAt P st) (compO x) (compO y))) := by
  cases ht : tyAt P st with
  | none => exact no_ok P o
  | some ty =>
    obtain ⟨size, bytes, d, z⟩ := ty
    obtain ⟨i, i1, i2, i3, i4, i5⟩ := tyAt_ok ht
    cases d <;> try exact no_ok P o
    · rename_i e
      cases he : tyAt P e with
      | none => simp only [compIndexAddr, he]; exact no_ok P o
      | some ety =>
        obtain ⟨esz, eb, ed, ez⟩ := ety
        obtain ⟨j, j1, j2, j3, j4, j5⟩ := tyAt_ok he
        simp only [compIndexAddr, he, runK_mk]
        refine RunOk.calm fun cf t hp k hk => ?_
        simp only [doIndexAddr, oK_eq, oE_eq] at hk
        rcases vL_ok hk with ⟨hv, hk⟩ | ⟨id, g, off, len, fin, cap, hv, hk⟩
        · exact Bool.noConfusion hk
        obtain ⟨kd, n, hn, hk⟩ := vI_ok hk
        obtain ⟨m, hm, hk⟩ := natK_ok hk
        obtain ⟨hl, hk⟩ := ifK_ok hk
        subst hm
        have hlt : m < len := Nat.le_of_ble_eq_true hl
        refine ⟨.p id g (off + m * esz) fin, fun k' => by simp only [doIndexAddr, oK_eq, oE_eq, hv, vL_l, hn, vI_i, natK_ofNat, hl, ifK_true, fN_eq]; rfl, fun ρ a A w => ?_⟩
        have hx := (A x (by rw [h]; simp [Op.operands]))
        rw [hv] at hx
        obtain ⟨L, ad, c, l1, l2, lc, l3, l4, l5, l6, l7⟩ := hx
        have hy := (A y (by rw [h]; simp [Op.operands]))
        rw [hn] at hy
        have hy' : a.eval y = .int kd (Int.ofNat m) := hy
        have hadr : ad = ⟨L.b, off - L.s, none⟩ := by
          rcases l5 with ⟨l5, _⟩ | l5
          · omega
          · exact l5
        subst hadr
        refine ⟨.pointer (some ⟨L.b, off + m * esz - L.s, none⟩), ?_, L, l1, rfl, by omega, l4⟩
        unfold execOp
        rw [h]
        have hc : (0 ≤ Int.ofNat m ∧ Int.ofNat m < (len : Int)) := by constructor <;> simp <;> omega
        simp only [run_v, Instr.indexAt, hy', l2, asIntOf, Sem.run_pure', Sem.run_bind, run_underlying i5, Result.andThen_ok, hc, and_self, if_true, run_sizeOf' j1, j2, add_none]
        simp only [Int.ofNat_eq_natCast, Int.toNat_natCast, show off - L.s + m * esz = off + m * esz - L.s by omega]
        all_goals rfl
    · rename_i len e
      cases he : tyAt P e with
      | none => simp only [compIndexAddr, he]; exact no_ok P o
      | some ety =>
        obtain ⟨esz, eb, ed, ez⟩ := ety
        obtain ⟨j, j1, j2, j3, j4, j5⟩ := tyAt_ok he
        simp only [compIndexAddr, he, runK_mk]
        refine RunOk.calm fun cf t hp k hk => ?_
        simp only [doIndexAddrArr, oK_eq, oE_eq] at hk
        obtain ⟨id, g, off, fin, hv, hk⟩ := vP_ok hk
        obtain ⟨kd, n, hn, hk⟩ := vI_ok hk
        obtain ⟨m, hm, hk⟩ := natK_ok hk
        obtain ⟨hl, hk⟩ := ifK_ok hk
        subst hm
        have hlt : m < len := Nat.le_of_ble_eq_true hl
        refine ⟨.p id g (off + m * esz) fin, fun k' => by simp only [doIndexAddrArr, oK_eq, oE_eq, hv, vP_p, hn, vI_i, natK_ofNat, hl, ifK_true, fN_eq]; rfl, fun ρ a A w => ?_⟩
        have hx := (A x (by rw [h]; simp [Op.operands]))
        rw [hv] at hx
        obtain ⟨L, l1, l2, l3, l4⟩ := hx
        have hy := (A y (by rw [h]; simp [Op.operands]))
        rw [hn] at hy
        have hy' : a.eval y = .int kd (Int.ofNat m) := hy
        refine ⟨.pointer (some ⟨L.b, off + m * esz - L.s, none⟩), ?_, L, l1, rfl, by omega, l4⟩
        unfold execOp
        rw [h]
        have hc : (0 ≤ Int.ofNat m ∧ Int.ofNat m < (len : Int)) := by constructor <;> simp <;> omega
        simp only [run_v, Instr.indexAt, hy', l2, asIntOf, Sem.run_pure', Sem.run_bind, run_underlying i5, Result.andThen_ok, sureAddr_run, hc, and_self, if_true, run_sizeOf' j1, j2, add_none]
        simp only [Int.ofNat_eq_natCast, Int.toNat_natCast, show off - L.s + m * esz = off + m * esz - L.s by omega]
        all_goals rfl

/-! ### Building -/
theorem app_eq {α : Type} : ∀ (a b : List α), app a b = a ++ b
  | [], _ => rfl
  | x :: a, b => by
    have e : app (x :: a) b = x :: app a b := rfl
    rw [e, app_eq a b]; rfl
theorem fold_put : ∀ (vs : List Value) (off n : Nat) (cells : Array Value), off + n + vs.length ≤ cells.size →
    ((vs.zipIdx n).foldl (fun cs (p : Value × Nat) => cs.setIfInBounds (off + p.2) p.1) cells).toList = cells.toList.take (off + n) ++ vs ++ cells.toList.drop (off + n + vs.length)
  | [], off, n, cells, _ => by simp
  | v :: vs, off, n, cells, h => by
    simp only [List.length_cons] at h
    rw [List.zipIdx_cons, List.foldl_cons, fold_put vs off (n + 1) _ (by simp; omega)]
    simp only [Array.toList_setIfInBounds]
    have hl : off + n < cells.toList.length := by simp; omega
    rw [List.take_set, List.drop_set]
    have e1 : (List.take (off + (n + 1)) cells.toList).set (off + n) v = List.take (off + n) cells.toList ++ [v] := by
      rw [show off + (n + 1) = off + n + 1 by omega, List.take_succ_eq_append_getElem hl, List.set_append_right _ _ (by simp; omega)]
      have hm : min (off + n) cells.size = off + n := by simp at hl; omega
      simp [hm]
    rw [e1, if_pos (by omega), show off + (n + 1) + vs.length = off + n + (v :: vs).length by simp; omega]
    simp

theorem fill_step {cells : Array Value} {off size : Nat} {v : Value} (h : v.cells.size = size) (h2 : off + size ≤ cells.size) :
    (v.cells.zipIdx.foldl (fun cs (p : Value × Nat) => cs.setIfInBounds (off + p.2) p.1) cells).toList = cells.toList.take off ++ v.cells.toList ++ cells.toList.drop (off + size) := by
  rw [← Array.foldl_toList, Array.toList_zipIdx]
  have := fold_put v.cells.toList off 0 cells (by simp; omega)
  rw [this]
  simp [h]

theorem put_rel {ρ : Emb} {cs : List V} {cells : List Value} {vs : List V} {xs : List Value} (h : LRel ρ cs cells) (hv : LRel ρ vs xs) (off size : Nat) (hs : vs.length = size) :
    LRel ρ (putAt cs off vs) (cells.take off ++ xs ++ cells.drop (off + size)) := by
  unfold putAt
  rw [app_eq, app_eq, hs, List.append_assoc]
  exact (h.take off).append (hv.append (h.drop _))

/-- the parts of a literal -/
def PartsOk (place : Nat → Option (Nat × Nat)) : List (Nat × Operand) → List Pt → Prop
  | [], [] => True
  | (n, x) :: r, p :: ps => place n = some (p.off, p.size) ∧ p.o = compO x ∧ PartsOk place r ps
  | _, _ => False

theorem fill_ok (place : Nat → Option (Nat × Nat)) : ∀ (parts : List (Nat × Operand)) (ps : List Pt), PartsOk place parts ps → ∀ (t : F) (cs : List V) (k : List V → Bool), fillL ps t cs k = true →
    ∃ cs', (∀ k', fillL ps t cs k' = k' cs') ∧ cs'.length = cs.length ∧ ∀ ρ a, ORel ρ t a (parts.map (·.2)) → ∀ cells : Array Value, LRel ρ cs cells.toList →
      ∃ cells', Instr.fill place cells (parts.map fun p => (p.1, a.eval p.2)) = some cells' ∧ LRel ρ cs' cells'.toList
  | [], [], _, t, cs, k, _ => ⟨cs, fun _ => rfl, rfl, fun ρ a A cells h => ⟨cells, rfl, h⟩⟩
  | (n, x) :: r, ⟨off, size, o⟩ :: ps, hp, t, cs, k, hk => by
    obtain ⟨hp1, hp2, hp3⟩ := hp
    simp only at hp1 hp2
    subst hp2
    have e : ∀ k', fillL (⟨off, size, compO x⟩ :: ps) t cs k' = oK (compO x) t (fillP off size (fillL ps) t cs k') := fun _ => rfl
    have e2 : ∀ k' v, fillP off size (fillL ps) t cs k' v = ifK (knownV v) fun _ => ifK (Nat.beq (cells v).length size) fun _ => ifK (Nat.ble (Nat.add off size) cs.length) fun _ => fillL ps t (putAt cs off (cells v)) k' := fun _ _ => rfl
    rw [e, oK_eq, e2] at hk
    obtain ⟨hu, hk⟩ := ifK_ok hk
    obtain ⟨hl, hk⟩ := ifK_ok hk
    obtain ⟨hb, hk⟩ := ifK_ok hk
    obtain ⟨cs', h1, h2, h3⟩ := fill_ok place r ps hp3 _ _ _ hk
    have hsz : (cells (oV (compO x) t)).length = size := Nat.eq_of_beq_eq_true hl
    have hbd : off + size ≤ cs.length := Nat.le_of_ble_eq_true hb
    refine ⟨cs', fun k' => by rw [e, oK_eq, e2, hu, hl, hb]; simp only [ifK_true]; exact h1 k', ?_, fun ρ a A cl hcl => ?_⟩
    · rw [h2]; unfold putAt; rw [app_eq, app_eq]; simp; omega
    · have hc := cells_rel (knownV_ok hu) (A x (by simp))
      have hcsz : (a.eval x).cells.size = size := by have := hc.length; simp at this; omega
      have hclen := hcl.length
      simp at hclen
      have hstep := fill_step (cells := cl) (off := off) hcsz (by omega)
      obtain ⟨cells', c1, c2⟩ := h3 ρ a (fun y hy => A y (by simp at hy ⊢; exact .inr hy)) ((a.eval x).cells.zipIdx.foldl (fun cs (p : Value × Nat) => cs.setIfInBounds (off + p.2) p.1) cl) (by rw [hstep]; exact put_rel hcl hc off size hsz)
      refine ⟨cells', ?_, c2⟩
      rw [List.map_cons]
      unfold Instr.fill
      simp only [hp1]
      rw [if_neg (by simp; omega)]
      exact c1
  | [], _ :: _, hp, _, _, _, _ => hp.elim
  | _ :: _, [], hp, _, _, _, _ => hp.elim

theorem parts_arr (size : Nat) : ∀ (parts : List (Nat × Operand)), PartsOk (fun i => some (i * size, size)) parts (compPartsA size parts)
  | [] => trivial
  | (n, x) :: r => ⟨rfl, rfl, parts_arr size r⟩

theorem parts_struct (P : Program) (fs : List Field) (places : Array (Nat × Nat)) (hpl : ∀ (n : Nat) f, fs[n]? = some f → ∀ ty, tyAt P f.type = some ty → places[n]? = some (f.offset, ty.size)) :
    ∀ (parts : List (Nat × Operand)) (ps : List Pt), compParts P fs parts = some ps → PartsOk (places[·]?) parts ps
  | [], ps, h => by
    have : ps = [] := by simpa [compParts] using h.symm
    subst this; trivial
  | (n, x) :: r, ps, h => by
    unfold compParts at h
    cases hf : fs[n]? with
    | none => rw [hf] at h; cases h
    | some f =>
      rw [hf] at h
      simp only at h
      cases ht : tyAt P f.type with
      | none => rw [ht] at h; cases h
      | some ty =>
        obtain ⟨s1, s2, s3, s4⟩ := ty
        rw [ht] at h
        cases hr : compParts P fs r with
        | none => rw [hr] at h; cases h
        | some rest =>
          rw [hr] at h
          cases h
          exact ⟨hpl n f hf _ ht, rfl, parts_struct P fs places hpl r rest hr⟩

end Go.Ev
