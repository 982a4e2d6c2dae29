/-
  The evaluator's operations against the model's: the builtins, and all operations together.
-/
import Derived.Test.YtiecpllnbekmoaaEvMp
set_option linter.all false
namespace Go.Ev
open Go

theorem append2_ok {P : Program} {t t' ty elem e' : TypeId} {i : TypeInfo} (hu : P.underlying t = some (.slice elem)) (hu' : P.underlying t' = some (.slice e') ∨ P.underlying t' = some .string) (hi : P.info? elem = some i)
    (hz : (zeroOf i.zero).length = i.size) (hs1 : 1 ≤ i.size) (hby : i.bytes ≤ 65536) {s x : V} {n : Nat} {vs : List V} {h : H} {k : V → H → Bool} (hk : append2 elem i.size s n vs h k = true)
    (hlen : vs.length = n * i.size)
    (hx : ∀ ρ xv, VRel ρ x xv → (∀ (P : Program) w, (Builtin.lenOf xv).run P w = .ok n w) ∧ ∀ w w0, HRel ρ h w w0 → ∃ new : Array Value, LRel ρ vs new.toList ∧ ∀ (P : Program), (Builtin.firstCells i.size n xv).run P w = .ok new w) :
    ∃ v h', (∀ k', append2 elem i.size s n vs h k' = k' v h') ∧ KeepF h h' ∧ B.val h.next ≤ B.val h'.next ∧ AppSound P t t' ty elem s x h v h' := by
  rcases vL_ok hk with ⟨hv, hk⟩ | ⟨id, g, off, len, fin, cap, hv, hk⟩
  · subst hv
    obtain ⟨v, h', g1, g2, g3, g4⟩ := appNil_ok hu hu' hi hz hs1 hby hk hlen hx
    exact ⟨v, h', fun k' => by simp only [append2, vL_l0, g1], g2, g3, g4⟩
  · subst hv
    cases cap with
    | none =>
      have hk' : appGrow elem id g off len fin i.size n vs h k = true := hk
      obtain ⟨v, h', g1, g2, g3, g4⟩ := appGrow_ok hu hu' hi hz hs1 hby hk' hlen hx
      exact ⟨v, h', fun k' => by simp only [append2, vL_l, g1], g2, g3, g4⟩
    | some c =>
      have e : ∀ k', append2 elem i.size (.l id g off len fin (some c)) n vs h k' = boolK (Nat.ble (Nat.add len n) c) (fun _ => appIn id g off len fin c i.size n vs h k') (fun _ => appOut elem id g off len fin i.size n vs h k') := fun _ => rfl
      have hk' : boolK (Nat.ble (Nat.add len n) c) (fun _ => appIn id g off len fin c i.size n vs h k) (fun _ => appOut elem id g off len fin i.size n vs h k) = true := hk
      rcases boolK_ok hk' with ⟨hb, hk⟩ | ⟨hb, hk⟩
      · obtain ⟨v, h', g1, g2, g3, g4⟩ := appIn_ok hu hu' hi hz hs1 hby hk (Nat.le_of_ble_eq_true hb) hlen hx
        exact ⟨v, h', fun k' => by rw [e, hb, boolK_true, g1], g2, g3, g4⟩
      · have hc : ¬ len + n ≤ c := fun h => by
          have : Nat.ble (Nat.add len n) c = true := Nat.ble_eq_true_of_le h
          rw [hb] at this; cases this
        obtain ⟨v, h', g1, g2, g3, g4⟩ := appOut_ok hu hu' hi hz hs1 hby hk hc hlen hx
        exact ⟨v, h', fun k' => by rw [e, hb, boolK_false, g1], g2, g3, g4⟩

theorem appendS_ok (P : Program) (o : Oper) (t t' e : TypeId) (x y : Operand) (args : Array Operand) (tys : Array TypeId) (ha : args.toList = [x, y]) (ht : tys.toList = [t, t'])
    (hu : P.underlying t = some (.slice e)) (hu' : P.underlying t' = some .string)
    (h : o.op = .call ⟨.builtin .append, args, tys⟩) : RunOk P o (runK (compAppS e (tyAt P e) (compO x) (compO y))) := by
  cases h3 : tyAt P e with
  | none => exact no_ok P o
  | some et =>
    obtain ⟨l, l1, l2, l3, l4, l5⟩ := tyAt_ok h3
    unfold compAppS
    split
    · rename_i bytes z heq
      cases heq
      simp only at l2 l3 l4
      split
      · rename_i hc
        simp only [Bool.and_eq_true] at hc
        have c1 : 1 ≤ l.size := by omega
        have c2 : l.bytes ≤ 65536 := by rw [l3]; exact Nat.le_of_ble_eq_true hc.1
        have c3 : (zeroOf l.zero).length = l.size := by rw [l4, l2]; exact Nat.eq_of_beq_eq_true hc.2
        intro cf _ fr hp k hk
        simp only [runK_mk, doAppendS, oK_eq, oE_eq] at hk
        obtain ⟨n, vs, n1, n2, n3⟩ := newCellsS_ok hk
        rw [n1] at hk
        have n3' : ∀ ρ xv, VRel ρ (oV (compO y) fr) xv → (∀ (P : Program) w, (Builtin.lenOf xv).run P w = .ok n w) ∧ ∀ w w0, HRel ρ hp w w0 → ∃ new : Array Value, LRel ρ vs new.toList ∧ ∀ (P : Program), (Builtin.firstCells l.size n xv).run P w = .ok new w := by
          intro ρ xv hx
          obtain ⟨q1, new, q2, q3⟩ := n3 ρ xv hx
          exact ⟨q1, fun w w0 _ => ⟨new, q2, fun P => by rw [l2]; exact q3 P w⟩⟩
        rw [← l2] at hk n2
        obtain ⟨v, h', g1, g2, g3, g4⟩ := append2_ok (e' := e) (ty := o.type) hu (.inr hu') l1 c3 c1 c2 hk n2 n3'
        refine ⟨v, h', fun k' => by simp only [runK_mk, doAppendS, oK_eq, oE_eq, n1]; rw [← l2, g1], g2, g3, fun ρ a w w0 A R => ?_, fun hs => by rw [h] at hs; exact Bool.noConfusion hs⟩
        obtain ⟨z, w', z1, z2⟩ := g4 ρ w w0 _ _ R (A x (by rw [h]; simp [Op.operands, Call.operands, ← Array.mem_toList_iff, ha])) (A y (by rw [h]; simp [Op.operands, Call.operands, ← Array.mem_toList_iff, ha]))
        refine ⟨.value z, w', ?_, z2⟩
        rw [run_builtin P w a o .append args tys h]
        have ea : args.map a.eval = #[a.eval x, a.eval y] := by apply Array.ext'; simp [ha]
        have et : tys = #[t, t'] := by apply Array.ext'; simp [ht]
        rw [ea, et]
        simp only [builtin, Sem.run_bind, z1, Result.andThen_ok]
        rfl
      · exact no_ok P o
    · exact no_ok P o

theorem append_ok (P : Program) (o : Oper) (t t' : TypeId) (x y : Operand) (args : Array Operand) (tys : Array TypeId) (ha : args.toList = [x, y]) (ht : tys.toList = [t, t'])
    (h : o.op = .call ⟨.builtin .append, args, tys⟩) : RunOk P o (runK (compAppend P t t' (compO x) (compO y))) := by
  cases h1 : tyAt P t with
  | none => simp only [compAppend, h1]; exact no_ok P o
  | some ty =>
    cases h2 : tyAt P t' with
    | none => simp only [compAppend, h1, h2]; exact no_ok P o
    | some ty' =>
      obtain ⟨s1, s2, d, s4⟩ := ty
      obtain ⟨r1, r2, d', r4⟩ := ty'
      obtain ⟨i, i1, i2, i3, i4, i5⟩ := tyAt_ok h1
      obtain ⟨j, j1, j2, j3, j4, j5⟩ := tyAt_ok h2
      cases d <;> simp only [compAppend, h1, h2] <;> try exact no_ok P o
      rename_i e
      cases d' <;> simp only [compAppend, h1, h2] <;> try exact no_ok P o
      · exact appendS_ok P o t t' e x y args tys ha ht i5 j5 h
      rename_i e'
      cases h3 : tyAt P e with
      | none => exact no_ok P o
      | some et =>
        obtain ⟨esz, eb, ed, ez⟩ := et
        obtain ⟨l, l1, l2, l3, l4, l5⟩ := tyAt_ok h3
        simp only at l2 l3 l4
        cases hc : (Nat.ble 1 esz && (Nat.ble eb 65536 && Nat.beq ez.length esz)) with
        | false => simp only [hc]; exact no_ok P o
        | true =>
          simp only [hc, runK_mk]
          simp only [Bool.and_eq_true] at hc
          have c1 : 1 ≤ l.size := by rw [l2]; exact Nat.le_of_ble_eq_true hc.1
          have c2 : l.bytes ≤ 65536 := by rw [l3]; exact Nat.le_of_ble_eq_true hc.2.1
          have c3 : (zeroOf l.zero).length = l.size := by rw [l4, l2]; exact Nat.eq_of_beq_eq_true hc.2.2
          rw [← l2]
          intro cf _ fr hp k hk
          simp only [doAppend, oK_eq, oE_eq] at hk
          obtain ⟨n, vs, n1, n2, n3⟩ := newCells_ok hk
          rw [n1] at hk
          obtain ⟨v, h', g1, g2, g3, g4⟩ := append2_ok (e' := e') (ty := o.type) i5 (.inl j5) l1 c3 c1 c2 hk n2 n3
          refine ⟨v, h', fun k' => by simp only [doAppend, oK_eq, oE_eq, n1, g1], g2, g3, fun ρ a w w0 A R => ?_, fun hs => by rw [h] at hs; exact Bool.noConfusion hs⟩
          obtain ⟨z, w', z1, z2⟩ := g4 ρ w w0 _ _ R (A x (by rw [h]; simp [Op.operands, Call.operands, ← Array.mem_toList_iff, ha])) (A y (by rw [h]; simp [Op.operands, Call.operands, ← Array.mem_toList_iff, ha]))
          refine ⟨.value z, w', ?_, z2⟩
          rw [run_builtin P w a o .append args tys h]
          have ea : args.map a.eval = #[a.eval x, a.eval y] := by apply Array.ext'; simp [ha]
          have et : tys = #[t, t'] := by apply Array.ext'; simp [ht]
          rw [ea, et]
          simp only [builtin, Sem.run_bind, z1, Result.andThen_ok]
          rfl

theorem run_copy {P : Program} {w : World} {t t' ty e : TypeId} {i : TypeInfo} {base : Option Addr} {len c n : Nat} {x : Value} {cells : Array Value} {w' : World}
    (hu : P.underlying t = some (.slice e)) (hi : P.info? e = some i) (hl : (Builtin.lenOf x).run P w = .ok n w) (hc : (Builtin.firstCells i.size (Nat.min n len) x).run P w = .ok cells w)
    (hst : ∀ a, base = some a → (storeCells a cells.toList).run P w = .ok () w') (hno : base = none → w' = w) :
    (Builtin.copy_ #[t, t'] ty #[.slice base len c, x]).run P w = .ok (.int .i64 (Int.ofNat (Nat.min n len))) w' := by
  unfold Builtin.copy_
  simp only [List.getElem?_toArray, List.getElem?_cons_zero, List.getElem?_cons_succ, Sem.run_bind, run_underlying hu, Result.andThen_ok, run_sizeOf' hi, hl, hc]
  cases base with
  | none => rw [hno rfl]; rfl
  | some a => simp only [Sem.run_bind, hst a rfl, Result.andThen_ok]; rfl

theorem copy_ok (P : Program) (o : Oper) (t t' : TypeId) (x y : Operand) (args : Array Operand) (tys : Array TypeId) (ha : args.toList = [x, y]) (ht : tys.toList = [t, t'])
    (h : o.op = .call ⟨.builtin .copy, args, tys⟩) : RunOk P o (runK (compCopy P t (compO x) (compO y))) := by
  have ea : ∀ a : Act, args.map a.eval = #[a.eval x, a.eval y] := fun a => by apply Array.ext'; simp [ha]
  have et : tys = #[t, t'] := by apply Array.ext'; simp [ht]
  have mx : x ∈ o.op.operands.toList := by rw [h]; simp [Op.operands, Call.operands, ← Array.mem_toList_iff, ha]
  have my : y ∈ o.op.operands.toList := by rw [h]; simp [Op.operands, Call.operands, ← Array.mem_toList_iff, ha]
  cases h1 : tyAt P t with
  | none => simp only [compCopy, h1]; exact no_ok P o
  | some ty =>
    obtain ⟨s1, s2, d, s4⟩ := ty
    obtain ⟨i, i1, i2, i3, i4, i5⟩ := tyAt_ok h1
    cases d <;> simp only [compCopy, h1] <;> try exact no_ok P o
    rename_i e
    cases h2 : tyAt P e with
    | none => exact no_ok P o
    | some ety =>
      obtain ⟨esz, eb, ed, ez⟩ := ety
      obtain ⟨j, j1, j2, j3, j4, j5⟩ := tyAt_ok h2
      simp only at j2
      subst j2
      simp only [runK_mk]
      intro cf _ fr hp k hk
      have done : ∀ (v : V) (h' : H), (∀ k', doCopy j.size (compO x) (compO y) cf fr hp k' = k' v h') → KeepF hp h' → B.val hp.next ≤ B.val h'.next →
          (∀ ρ w w0 sv xv, HRel ρ hp w w0 → VRel ρ (oV (compO x) fr) sv → VRel ρ (oV (compO y) fr) xv → ∃ z w', (Builtin.copy_ #[t, t'] o.type #[sv, xv]).run P w = .ok z w' ∧ VRel ρ v z ∧ HRel ρ h' w' w0) →
          ∃ v h', (∀ k', doCopy j.size (compO x) (compO y) cf fr hp k' = k' v h') ∧ KeepF hp h' ∧ B.val hp.next ≤ B.val h'.next ∧ OpSound P o fr hp v h' ∧ (still P o.op = true → h' = hp ∧ CalmSound P o fr v) := by
        intro v h' g1 g2 g3 g4
        refine ⟨v, h', g1, g2, g3, fun ρ a w w0 A R => ?_, fun hs => by rw [h] at hs; exact Bool.noConfusion hs⟩
        obtain ⟨z, w', z1, z2, z3⟩ := g4 ρ w w0 _ _ R (A x mx) (A y my)
        refine ⟨.value z, w', ?_, ρ, Ext.refl _ ρ, z2, z3⟩
        rw [run_builtin P w a o .copy args tys h, ea, et]
        simp only [builtin, Sem.run_bind, z1, Result.andThen_ok]
        rfl
      simp only [doCopy, oK_eq] at hk
      rcases vL_ok hk with ⟨hv, hk2⟩ | ⟨id, g, off, len, fin, cap, hv, hk2⟩
      · rcases vL_ok hk2 with ⟨hy, hk3⟩ | ⟨id', g', off', len', fin', cap', hy, hk3⟩
        · refine done (.i .i64 (.ofNat 0)) hp (fun k' => by simp only [doCopy, oK_eq, hv, vL_l0, copy0, hy]) (KeepF.refl hp) (Nat.le_refl _) (fun ρ w w0 sv xv R hs hx => ?_)
          rw [hv] at hs
          rw [hy] at hx
          have hs' : sv = .slice none 0 0 := hs
          have hx' : xv = .slice none 0 0 := hx
          subst hs'
          subst hx'
          exact ⟨_, w, run_copy i5 j1 rfl rfl (fun a ha => by cases ha) (fun _ => rfl), rfl, R⟩
        · refine done (.i .i64 (.ofNat 0)) hp (fun k' => by simp only [doCopy, oK_eq, hv, vL_l0, copy0, hy, vL_l]) (KeepF.refl hp) (Nat.le_refl _) (fun ρ w w0 sv xv R hs hx => ?_)
          rw [hv] at hs
          rw [hy] at hx
          have hs' : sv = .slice none 0 0 := hs
          obtain ⟨L, ad, c, l1, rfl, lc, l3, l4, l5, l6, l7⟩ := hx
          subst hs'
          have hm : Nat.min len' 0 = 0 := Nat.min_zero _
          refine ⟨.int .i64 (Int.ofNat 0), w, ?_, rfl, R⟩
          have := run_copy (t' := t') (ty := o.type) (w' := w) (base := none) (len := 0) (c := 0) (cells := #[]) i5 j1 (show (Builtin.lenOf (.slice (some ad) len' c)).run P w = .ok len' w from rfl) (by rw [hm]; unfold Builtin.firstCells; rw [Nat.zero_mul]; rfl) (fun a ha => by cases ha) (fun _ => rfl)
          rw [hm] at this
          exact this
      · rcases vL_ok hk2 with ⟨hy, hk3⟩ | ⟨id', g', off', len', fin', cap', hy, hk3⟩
        · refine done (.i .i64 (.ofNat 0)) hp (fun k' => by simp only [doCopy, oK_eq, hv, vL_l, copyTo, hy, vL_l0]) (KeepF.refl hp) (Nat.le_refl _) (fun ρ w w0 sv xv R hs hx => ?_)
          rw [hv] at hs
          rw [hy] at hx
          have hx' : xv = .slice none 0 0 := hx
          obtain ⟨L, ad, c, l1, rfl, lc, l3, l4, l5, l6, l7⟩ := hs
          subst hx'
          have hm : Nat.min 0 len = 0 := Nat.zero_min _
          refine ⟨.int .i64 (Int.ofNat 0), w, ?_, rfl, R⟩
          have := run_copy (t' := t') (ty := o.type) (w' := w) (base := some ad) (len := len) (c := c) (cells := #[]) i5 j1 (show (Builtin.lenOf (.slice none 0 0)).run P w = .ok 0 w from rfl) (by rw [hm]; rfl) (fun a ha => rfl) (fun _ => rfl)
          rw [hm] at this
          exact this
        · rcases natC_ok hk3 with ⟨hm, hk4⟩ | ⟨m, hm, hk4⟩
          · refine done (.i .i64 (.ofNat 0)) hp (fun k' => by simp only [doCopy, oK_eq, hv, vL_l, copyTo, hy, hm, natC_zero]) (KeepF.refl hp) (Nat.le_refl _) (fun ρ w w0 sv xv R hs hx => ?_)
            rw [hv] at hs
            rw [hy] at hx
            obtain ⟨L, ad, c, l1, rfl, lc, l3, l4, l5, l6, l7⟩ := hs
            obtain ⟨L', ad', c', m1, rfl, mc, m3, m4, m5, m6, m7⟩ := hx
            refine ⟨.int .i64 (Int.ofNat 0), w, ?_, rfl, R⟩
            have := run_copy (t' := t') (ty := o.type) (w' := w) (base := some ad) (len := len) (c := c) (cells := #[]) i5 j1 (show (Builtin.lenOf (.slice (some ad') len' c')).run P w = .ok len' w from rfl) (by rw [hm]; unfold Builtin.firstCells; rw [Nat.zero_mul]; rfl) (fun a ha => rfl) (fun _ => rfl)
            rw [hm] at this
            exact this
          · obtain ⟨vs, n1, n2, n3⟩ := loadN_ok hk4
            rw [n1] at hk4
            obtain ⟨h', g1, g2, g3, g4⟩ := store_ok hk4
            have hml : Nat.min len' len ≤ len' ∧ Nat.min len' len ≤ len := ⟨Nat.min_le_left _ _, Nat.min_le_right _ _⟩
            refine done (.i .i64 (.ofNat (m + 1))) h' (fun k' => by simp only [doCopy, oK_eq, hv, vL_l, copyTo, hy, hm, natC_succ]; rw [← hm, n1, g1, hm]) g2 (by rw [g3]; exact Nat.le_refl _) (fun ρ w w0 sv xv R hs hx => ?_)
            rw [hv] at hs
            rw [hy] at hx
            obtain ⟨L, ad, c, l1, rfl, lc, l3, l4, l5, l6, l7⟩ := hs
            obtain ⟨L', ad', c', m1, rfl, mc, m3, m4, m5, m6, m7⟩ := hx
            obtain ⟨xs, x1, x2, x3⟩ := n3 ρ w w0 L' R m1 m3 m4
            have hadr : ad = ⟨L.b, off - L.s, none⟩ := by
              rcases l5 with ⟨h0, _⟩ | h1
              · omega
              · exact h1
            have hadr' : ad' = ⟨L'.b, off' - L'.s, none⟩ := by
              rcases m5 with ⟨h0, _⟩ | h1
              · omega
              · exact h1
            subst hadr
            subst hadr'
            obtain ⟨s1, s2⟩ := g4 ρ w w0 L xs R l1 l3 l4 x1
            refine ⟨.int .i64 (Int.ofNat (m + 1)), _, ?_, rfl, s2⟩
            have := run_copy (t' := t') (ty := o.type) (base := some ⟨L.b, off - L.s, none⟩) (len := len) (c := c) (cells := xs.toArray) i5 j1 (show (Builtin.lenOf (.slice (some ⟨L'.b, off' - L'.s, none⟩) len' c')).run P w = .ok len' w from rfl) (by unfold Builtin.firstCells; exact x2 P) (fun a ha => by cases ha; exact s1 P) (fun hn => by cases hn)
            rw [hm] at this
            exact this

theorem len_ok (P : Program) (o : Oper) (t : TypeId) (x : Operand) (args : Array Operand) (tys : Array TypeId) (ha : args.toList = [x]) (ht : tys.toList = [t])
    (h : o.op = .call ⟨.builtin .len, args, tys⟩) : RunOk P o (runK (compLen P t (compO x))) := by
  have ea : ∀ a : Act, args.map a.eval = #[a.eval x] := fun a => by apply Array.ext'; simp [ha]
  have et : tys = #[t] := by apply Array.ext'; simp [ht]
  cases h1 : tyAt P t with
  | none => simp only [compLen, h1]; exact no_ok P o
  | some ty =>
    obtain ⟨s1, s2, d, s4⟩ := ty
    obtain ⟨i, i1, i2, i3, i4, i5⟩ := tyAt_ok h1
    cases d <;> simp only [compLen, h1] <;> try exact no_ok P o
    · refine RunOk.calm fun cf fr hp k hk => ?_
      simp only [runK_mk, doLenS, oK_eq, oE_eq] at hk
      obtain ⟨len, n, hv, hk⟩ := vS_ok hk
      refine ⟨.i .i64 len, fun k' => by simp only [runK_mk, doLenS, oK_eq, oE_eq, hv, vS_s]; rfl, fun ρ a A w => ?_⟩
      have hx := (A x (by rw [h]; simp [Op.operands, Call.operands, ← Array.mem_toList_iff, ha]))
      rw [hv] at hx
      obtain ⟨bs, b1, b2, b3⟩ := hx
      refine ⟨.int .i64 len, ?_, rfl⟩
      rw [run_builtin P w a o .len args tys h, ea, et, b1]
      unfold builtin Builtin.len_
      simp only [List.getElem?_toArray, List.getElem?_cons_zero, Sem.run_bind, run_underlying i5, Result.andThen_ok, b2]
      rfl
    · refine RunOk.calm fun cf fr hp k hk => ?_
      simp only [runK_mk, doLen, oK_eq, oE_eq] at hk
      rcases vL_ok hk with ⟨hv, hk⟩ | ⟨id, g, off, len, fin, cap, hv, hk⟩
      · refine ⟨.i .i64 0, fun k' => by simp only [runK_mk, doLen, oK_eq, oE_eq, hv, vL_l0]; rfl, fun ρ a A w => ?_⟩
        have hx := (A x (by rw [h]; simp [Op.operands, Call.operands, ← Array.mem_toList_iff, ha]))
        rw [hv] at hx
        have hx' : a.eval x = .slice none 0 0 := hx
        refine ⟨.int .i64 0, ?_, rfl⟩
        rw [run_builtin P w a o .len args tys h, ea, et, hx']
        unfold builtin Builtin.len_
        simp only [List.getElem?_toArray, List.getElem?_cons_zero, Sem.run_bind, run_underlying i5, Result.andThen_ok]
        rfl
      · refine ⟨.i .i64 len, fun k' => by simp only [runK_mk, doLen, oK_eq, oE_eq, hv, vL_l]; rfl, fun ρ a A w => ?_⟩
        have hx := (A x (by rw [h]; simp [Op.operands, Call.operands, ← Array.mem_toList_iff, ha]))
        rw [hv] at hx
        obtain ⟨L, ad, c, l1, hx', l3⟩ := hx
        refine ⟨.int .i64 len, ?_, rfl⟩
        rw [run_builtin P w a o .len args tys h, ea, et, hx']
        unfold builtin Builtin.len_
        simp only [List.getElem?_toArray, List.getElem?_cons_zero, Sem.run_bind, run_underlying i5, Result.andThen_ok]
        rfl
    · exact mapLen_ok P o t _ _ x args tys ha ht (by simp only [isMapT, h1]) i5 h

theorem min_ok (P : Program) (o : Oper) (x y : Operand) (args : Array Operand) (tys : Array TypeId) (ha : args.toList = [x, y])
    (h : o.op = .call ⟨.builtin .min, args, tys⟩) : RunOk P o (doMin (compO x) (compO y)) := by
  have ea : ∀ a : Act, args.map a.eval = #[a.eval x, a.eval y] := fun a => by apply Array.ext'; simp [ha]
  refine RunOk.calm fun cf fr hp k hk => ?_
  simp only [doMin, oK_eq, oE_eq] at hk
  obtain ⟨kd, m, hm, hk⟩ := vI_ok hk
  obtain ⟨kd', n, hn, hk⟩ := vI_ok hk
  obtain ⟨he, hk2⟩ := ifK_ok hk
  have hkd := kdEq_ok he
  subst hkd
  refine ⟨.i kd (if n < m then n else m), fun k' => ?_, fun ρ a A w => ?_⟩
  · simp only [doMin, oK_eq, oE_eq, hm, vI_i, hn, he, ifK_true, ltI_eq]
    by_cases hlt : n < m <;> simp [hlt]
  · have hx := (A x (by rw [h]; simp [Op.operands, Call.operands, ← Array.mem_toList_iff, ha]))
    rw [hm] at hx
    have hx' : a.eval x = .int kd m := hx
    have hy := (A y (by rw [h]; simp [Op.operands, Call.operands, ← Array.mem_toList_iff, ha]))
    rw [hn] at hy
    have hy' : a.eval y = .int kd n := hy
    refine ⟨.int kd (if n < m then n else m), ?_, rfl⟩
    rw [run_builtin P w a o .min args tys h, ea, hx', hy']
    rfl

theorem max_ok (P : Program) (o : Oper) (x y : Operand) (args : Array Operand) (tys : Array TypeId) (ha : args.toList = [x, y])
    (h : o.op = .call ⟨.builtin .max, args, tys⟩) : RunOk P o (doMax (compO x) (compO y)) := by
  have ea : ∀ a : Act, args.map a.eval = #[a.eval x, a.eval y] := fun a => by apply Array.ext'; simp [ha]
  refine RunOk.calm fun cf fr hp k hk => ?_
  simp only [doMax, oK_eq, oE_eq] at hk
  obtain ⟨kd, m, hm, hk⟩ := vI_ok hk
  obtain ⟨kd', n, hn, hk⟩ := vI_ok hk
  obtain ⟨he, hk2⟩ := ifK_ok hk
  have hkd := kdEq_ok he
  subst hkd
  refine ⟨.i kd (if n > m then n else m), fun k' => ?_, fun ρ a A w => ?_⟩
  · simp only [doMax, oK_eq, oE_eq, hm, vI_i, hn, he, ifK_true, ltI_eq]
    by_cases hlt : m < n <;> simp [hlt]
  · have hx := (A x (by rw [h]; simp [Op.operands, Call.operands, ← Array.mem_toList_iff, ha]))
    rw [hm] at hx
    have hx' : a.eval x = .int kd m := hx
    have hy := (A y (by rw [h]; simp [Op.operands, Call.operands, ← Array.mem_toList_iff, ha]))
    rw [hn] at hy
    have hy' : a.eval y = .int kd n := hy
    refine ⟨.int kd (if n > m then n else m), ?_, rfl⟩
    rw [run_builtin P w a o .max args tys h, ea, hx', hy']
    rfl

theorem builtin_ok (P : Program) (o : Oper) (b : Builtin) (args : Array Operand) (tys : Array TypeId) (h : o.op = .call ⟨.builtin b, args, tys⟩) : RunOk P o (runK (compBuiltin P b (args.toList.map compO) tys.toList)) := by
  unfold compBuiltin
  split
  · rename_i x t hx ht
    generalize ha : args.toList = al at hx
    match al, hx with
    | [y], hx => simp only [List.map_cons, List.map_nil, List.cons.injEq, and_true] at hx; subst hx; exact len_ok P o t y args tys ha ht h
    | [], hx => simp at hx
    | _ :: _ :: _, hx => simp at hx
  · rename_i x y hx
    generalize ha : args.toList = al at hx
    match al, hx with
    | [p, q], hx => simp only [List.map_cons, List.map_nil, List.cons.injEq, and_true] at hx; obtain ⟨rfl, rfl⟩ := hx; exact min_ok P o p q args tys ha h
    | [], hx => simp at hx
    | [_], hx => simp at hx
    | _ :: _ :: _ :: _, hx => simp at hx
  · rename_i x y hx
    generalize ha : args.toList = al at hx
    match al, hx with
    | [p, q], hx => simp only [List.map_cons, List.map_nil, List.cons.injEq, and_true] at hx; obtain ⟨rfl, rfl⟩ := hx; exact max_ok P o p q args tys ha h
    | [], hx => simp at hx
    | [_], hx => simp at hx
    | _ :: _ :: _ :: _, hx => simp at hx
  · rename_i x y t t' hx ht
    generalize ha : args.toList = al at hx
    match al, hx with
    | [p, q], hx => simp only [List.map_cons, List.map_nil, List.cons.injEq, and_true] at hx; obtain ⟨rfl, rfl⟩ := hx; exact append_ok P o t t' p q args tys ha ht h
    | [], hx => simp at hx
    | [_], hx => simp at hx
    | _ :: _ :: _ :: _, hx => simp at hx
  · rename_i x y t t' hx ht
    generalize ha : args.toList = al at hx
    match al, hx with
    | [p, q], hx => simp only [List.map_cons, List.map_nil, List.cons.injEq, and_true] at hx; obtain ⟨rfl, rfl⟩ := hx; exact copy_ok P o t t' p q args tys ha ht h
    | [], hx => simp at hx
    | [_], hx => simp at hx
    | _ :: _ :: _ :: _, hx => simp at hx
  · rename_i x hx
    generalize ha : args.toList = al at hx
    match al, hx with
    | [p], hx => simp only [List.map_cons, List.map_nil, List.cons.injEq, and_true] at hx; subst hx; exact sdata_ok P o p args tys ha h
    | [], hx => simp at hx
    | _ :: _ :: _, hx => simp at hx
  · rename_i x y t t' hx ht
    generalize ha : args.toList = al at hx
    match al, hx with
    | [p, q], hx => simp only [List.map_cons, List.map_nil, List.cons.injEq, and_true] at hx; obtain ⟨rfl, rfl⟩ := hx; exact mapDel_ok P o t t' p q args tys ha ht h
    | [], hx => simp at hx
    | [_], hx => simp at hx
    | _ :: _ :: _ :: _, hx => simp at hx
  · rename_i x y t t' hx ht
    generalize ha : args.toList = al at hx
    match al, hx with
    | [p, q], hx =>
      simp only [List.map_cons, List.map_nil, List.cons.injEq, and_true] at hx; obtain ⟨rfl, rfl⟩ := hx
      unfold compUStr
      split
      · rename_i hty
        obtain ⟨i, i1, i2, i3, i4, i5⟩ := tyAt_ok hty
        exact ustr_ok P o t t' _ p q args tys ha ht i5 h
      · exact no_ok P o
    | [], hx => simp at hx
    | [_], hx => simp at hx
    | _ :: _ :: _ :: _, hx => simp at hx
  · exact no_ok P o

theorem compFn1_ok (P : Program) (o : Oper) (f : FuncId) (args : Array Operand) (tys : Array TypeId) (h : o.op = .call ⟨.value (.func f), args, tys⟩) : RunOk P o (runK (compFn1 P f (args.toList.map compO))) := by
  unfold compFn1
  split
  · exact call_ok P o f args tys h
  · rename_i fn hf
    split
    · exact call_ok P o f args tys h
    · rename_i hb
      unfold compExt
      split
      · rename_i hn
        simp only [Bool.and_eq_true, beq_iff_eq] at hn
        split
        · rename_i x hx
          generalize ha : args.toList = al at hx
          match al, hx with
          | [p], hx => simp only [List.map_cons, List.map_nil, List.cons.injEq, and_true] at hx; subst hx; exact ext_ok P o f fn hf hb p args tys ha hn.1 hn.2 h
          | [], hx => simp at hx
          | _ :: _ :: _, hx => simp at hx
        · exact no_ok P o
      · exact call_ok P o f args tys h

theorem callop_ok (P : Program) (o : Oper) (c : Call) (h : o.op = .call c) : RunOk P o (runK (compCall P c)) := by
  obtain ⟨cal, args, tys⟩ := c
  cases cal with
  | builtin b => exact builtin_ok P o b args tys h
  | invoke r m => exact no_ok P o
  | value f =>
    cases f with
    | func f => exact compFn1_ok P o f args tys h
    | tmp _ => exact no_ok P o
    | const _ => exact no_ok P o
    | global _ => exact no_ok P o

/-- EVERY OPERATION: what the evaluator makes of it is what the model makes of it. -/
theorem compOp_ok (P : Program) (o : Oper) : RunOk P o (runK (compOp P o.op)) := by
  cases h : o.op with
  | move x => exact move_ok P o x (.inl h)
  | assign x => exact move_ok P o x (.inr h)
  | pick c x y => exact pick_ok P o c x y h
  | alloc e => exact zalloc_ok P o e h
  | box e x => exact box_ok P o e x h
  | build t ps => exact build_ok P o t ps h
  | buildSlice t n ps => exact buildSlice_ok P o t n ps h
  | load t x => exact load_ok P o t x h
  | store t x y => exact storeop_ok P o t x y h
  | binOp op tx x y ty => exact binop_ok P o op tx ty x y h
  | unOp op tx x => exact unop_ok P o op tx x h
  | convert s d x => exact conv_ok P o s d x h
  | makeSlice t l c => exact makeSlice_ok P o t l c h
  | fieldAddr t x n => exact fieldAddr_ok P o t x n h
  | field t x n => exact field_ok P o t x n h
  | indexAddr t x y => exact indexAddr_ok P o t x y h
  | extract x n => exact extract_ok P o x n h
  | nilCheck x => exact nilCheck_ok P o x h
  | index t x y => exact index_ok P o t x y h
  | slice t x lo hi mx => exact slice_ok P o t x lo hi mx h
  | call c => exact callop_ok P o c h
  | lookup t x q ok => exact lookup_ok P o t x q ok h
  | mapUpdate t x q v => exact mapSet_ok P o t x q v h
  | makeMap t r => exact makeMap_ok P o t r h
  | _ => exact no_ok P o

end Go.Ev
