/-
  The evaluator's operations against the model's: pointers compared, pointers seen as others, strings that share bytes; functions without a body.
-/
import Derived.Test.YtiecpllnbekmoaaEvT
import Derived.Lib.Builder
import Derived.Lib.UnsafeStr
import Derived.Laws.Externs
import Derived.KernelRfl
import Derived.Lib.ConvBytes
import Derived.Laws.AppendOwn
set_option linter.all false
namespace Go.Ev
open Go

theorem vPZ_ok {v : V} {z : Unit → Bool} {k : B → Nat → Nat → Nat → Bool} (h : vPZ v z k = true) : (v = .p0 ∧ z () = true) ∨ ∃ id g off fin, v = .p id g off fin ∧ k id g off fin = true := by
  cases v <;> first | exact Bool.noConfusion h | exact .inl ⟨rfl, h⟩ | exact .inr ⟨_, _, _, _, rfl, h⟩
@[simp] theorem vPZ_p0 (z : Unit → Bool) (k : B → Nat → Nat → Nat → Bool) : vPZ .p0 z k = z () := rfl
@[simp] theorem vPZ_p (id : B) (g off fin : Nat) (z : Unit → Bool) (k : B → Nat → Nat → Nat → Bool) : vPZ (.p id g off fin) z k = k id g off fin := rfl

theorem run_eqGuard_ptr (P : Program) (w : World) (op : BinOp) (t : TypeId) (x y : Operand) (p q : Option Addr) : (eqGuard op t x y (.pointer p) (.pointer q)).run P w = .ok () w := by
  unfold eqGuard
  cases op <;> rfl

theorem run_ptr_eq {P : Program} {tx e : TypeId} {i : TypeInfo} (hu : P.underlying tx = some (.pointer e)) (hi : P.info? e = some i) (hs : i.size ≠ 0) (p q : Option Addr)
    (hb : ∀ a b, p = some a → q = some b → a.block = b.block) (w : World) : (Op.equal tx (.pointer p) (.pointer q)).run P w = .ok (p == q) w := by
  unfold Op.equal Op.maxDepth Op.equalIn
  simp only [Sem.run_bind, run_underlying hu, Result.andThen_ok]
  cases p with
  | none => cases q <;> rfl
  | some a =>
    cases q with
    | none => rfl
    | some b =>
      simp only [Sem.run_bind, run_sizeOf' hi, Result.andThen_ok, ne_eq, hs, not_false_eq_true, if_true]
      unfold sameAddr
      have h := hb a b rfl rfl
      simp only [h, beq_self_eq_true, if_true]
      rfl

theorem ptr_ok (P : Program) (o : Oper) (ne : Bool) (tx e ty : TypeId) (x y : Operand) (hu : P.underlying tx = some (.pointer e)) (h : o.op = .binOp (if ne then .neq else .eql) tx x y ty) :
    RunOk P o (runK (compPtr ne (tyAt P e) (compO x) (compO y))) := by
  unfold compPtr
  split
  · rename_i size bytes d z he
    obtain ⟨i, i1, i2, i3, i4, i5⟩ := tyAt_ok he
    refine RunOk.calm fun cf t hp k hk => ?_
    simp only [runK_mk, doPtr, oE_eq] at hk
    have fn1 : ∀ (b : Bool), (∀ k', doPtr ne (compO x) (compO y) cf t hp k' = k' (.b (xor ne b)) hp) →
        (∀ ρ vx vy, VRel ρ (oV (compO x) t) vx → VRel ρ (oV (compO y) t) vy → ∃ p q, vx = .pointer p ∧ vy = .pointer q ∧ (p == q) = b ∧ ∀ a c, p = some a → q = some c → a.block = c.block) →
        ∃ v, (∀ k', runK ⟨doPtr ne (compO x) (compO y)⟩ cf t hp k' = k' v hp) ∧ ∀ ρ a, ORel ρ t a o.op.operands.toList → ∀ w, ∃ x, (execOp a.eval o).run P w = .ok (.value x) w ∧ VRel ρ v x := by
      intro b h1 h2
      refine ⟨.b (xor ne b), h1, fun ρ a A w => ?_⟩
      obtain ⟨p, q, hx, hy, hpq, hbl⟩ := h2 ρ _ _ (A x (by rw [h]; simp [Op.operands])) (A y (by rw [h]; simp [Op.operands]))
      refine ⟨.bool (xor ne b), ?_, rfl⟩
      have he := run_ptr_eq hu i1 (by rw [i2]; simp) p q hbl w
      have hg := run_eqGuard_ptr P w (if ne then .neq else .eql) tx x y p q
      unfold execOp
      rw [h]
      cases ne
      · simp only [Bool.false_eq_true, if_false] at hg ⊢
        have e1 : binOp .eql tx (.pointer p) (.pointer q) = (do pure (.bool (← Op.equal tx (.pointer p) (.pointer q)))) := rfl
        simp only [hx, hy, Sem.run_bind, hg, Result.andThen_ok, e1, he, hpq]
        cases b <;> rfl
      · simp only [if_true] at hg ⊢
        have e1 : binOp .neq tx (.pointer p) (.pointer q) = (do pure (.bool (!(← Op.equal tx (.pointer p) (.pointer q))))) := rfl
        simp only [hx, hy, Sem.run_bind, hg, Result.andThen_ok, e1, he, hpq]
        cases b <;> rfl
    rcases vPZ_ok hk with ⟨hx, hk⟩ | ⟨id, g, off, fn, hx, hk⟩
    · rcases vPZ_ok hk with ⟨hy, hk⟩ | ⟨id', g', off', fn', hy, hk⟩
      · refine fn1 true (fun k' => by simp only [doPtr, oE_eq, hx, hy, vPZ_p0, fB_eq]; cases ne <;> rfl) fun ρ vx vy r1 r2 => ?_
        rw [hx] at r1; rw [hy] at r2
        exact ⟨none, none, r1, r2, rfl, fun a c ha => by cases ha⟩
      · refine fn1 false (fun k' => by simp only [doPtr, oE_eq, hx, hy, vPZ_p0, vPZ_p, fB_eq]; cases ne <;> rfl) fun ρ vx vy r1 r2 => ?_
        rw [hx] at r1; rw [hy] at r2
        obtain ⟨L, l1, l2, _⟩ := r2
        exact ⟨none, _, r1, l2, rfl, fun a c ha => by cases ha⟩
    · simp only [ptrK] at hk
      rcases vPZ_ok hk with ⟨hy, hk⟩ | ⟨id', g', off', fn', hy, hk⟩
      · refine fn1 false (fun k' => by simp only [doPtr, ptrK, oE_eq, hx, hy, vPZ_p0, vPZ_p, fB_eq]; cases ne <;> rfl) fun ρ vx vy r1 r2 => ?_
        rw [hx] at r1; rw [hy] at r2
        obtain ⟨L, l1, l2, _⟩ := r1
        exact ⟨_, none, l2, r2, rfl, fun a c _ hc => by cases hc⟩
      · obtain ⟨hid, hk⟩ := ifK_ok hk
        obtain ⟨hg, hk⟩ := ifK_ok hk
        refine fn1 (Nat.beq off off') (fun k' => by simp only [doPtr, ptrK, oE_eq, hx, hy, vPZ_p, fB_eq, hid, hg, ifK_true]) fun ρ vx vy r1 r2 => ?_
        rw [hx] at r1; rw [hy] at r2
        have e1 := B.val_inj (Nat.eq_of_beq_eq_true hid)
        have e2 := Nat.eq_of_beq_eq_true hg
        subst e1; subst e2
        obtain ⟨L, l1, l2, l3, _⟩ := r1
        obtain ⟨M, m1, m2, m3, _⟩ := r2
        rw [l1] at m1
        cases m1
        refine ⟨_, _, l2, m2, ?_, fun a c ha hc => by cases ha; cases hc; rfl⟩
        by_cases ho : off = off'
        · subst ho; simp
        · have : Nat.beq off off' = false := by
            cases hb : Nat.beq off off' with
            | false => rfl
            | true => exact absurd (Nat.eq_of_beq_eq_true hb) ho
          rw [this]
          have hne : off - L.s ≠ off' - L.s := by omega
          simp [hne]
  · exact no_ok P o

theorem nilCheck_ok (P : Program) (o : Oper) (x : Operand) (h : o.op = .nilCheck x) : RunOk P o (doNilCheck (compO x)) := by
  refine RunOk.calm fun cf t hp k hk => ?_
  simp only [doNilCheck, oE_eq] at hk
  obtain ⟨id, g, off, fin, hv, hk2⟩ := vP_ok hk
  refine ⟨.p id g off fin, fun k' => by simp only [doNilCheck, oE_eq, hv, vP_p], fun ρ a A w => ?_⟩
  have hx := (A x (by rw [h]; simp [Op.operands]))
  rw [hv] at hx
  have hx0 := hx
  obtain ⟨L, l1, l2, l3, l4⟩ := hx
  refine ⟨a.eval x, ?_, hx0⟩
  unfold execOp
  rw [h]
  simp only [l2]
  rfl

theorem HasC.shape {w : World} {b s : Nat} {c : Array Value} {el bel fr : Nat} (h : HasC w b s c el bel fr) : w.shape? b = some (bel, c.size) := by
  obtain ⟨rfl, fz, h, _⟩ := h
  simp [World.shape?, h]

theorem p2u_ok (P : Program) (o : Oper) (s d e : TypeId) (x : Operand) (hs : P.underlying s = some (.pointer e)) (hd : P.underlying d = some .unsafePointer) (h : o.op = .convert s d x) : RunOk P o (runK (compP2U (tyAt P e) (compO x))) := by
  unfold compP2U
  split
  · rename_i size bytes dd z he
    obtain ⟨i, i1, i2, i3, i4, i5⟩ := tyAt_ok he
    refine RunOk.pure (by rw [h]; rfl) fun cf t hp k hk => ?_
    simp only [runK_mk, doP2U, oE_eq] at hk
    obtain ⟨id, g, off, fin, hv, hk2⟩ := vP_ok hk
    obtain ⟨v, h1, h2⟩ := load1_ok hk2
    refine ⟨.p id g off fin, fun k' => by simp only [runK_mk, doP2U, oE_eq, hv, vP_p, h1], fun ρ a A w w0 R => ?_⟩
    have hx := (A x (by rw [h]; simp [Op.operands]))
    rw [hv] at hx
    have hx0 := hx
    obtain ⟨L, l1, l2, l3, l4⟩ := hx
    obtain ⟨y, y1, y2⟩ := h2 ρ w w0 L R l1 l3 l4
    refine ⟨a.eval x, ?_, hx0⟩
    have hsh : ∃ e' cells, w.shape? L.b = some (e', cells) ∧ off - L.s < cells := by
      simp only [World.cell?] at y2
      split at y2
      · rename_i c el fz hh
        exact ⟨el, c.size, by simp [World.shape?, hh], (Array.getElem?_eq_some_iff.1 y2).1⟩
      · cases y2
    obtain ⟨e', cells, q1, q2⟩ := hsh
    unfold execOp
    rw [h]
    simp only [run_v, l2]
    rw [Lib.run_to_unsafe w ⟨L.b, off - L.s, none⟩ hs hd i1 (by rw [i2]; simp) q1 q2]
    rfl
  · exact no_ok P o

theorem elK_ok {h : H} {id : B} {g el : Nat} {k : Unit → Bool} (hk : elK h id g el k = true) : (∀ k', elK h id g el k' = k' ()) ∧ k () = true ∧
    ∀ ρ w w0 L, HRel ρ h w w0 → ρ id g = some L → ∃ c, w.shape? L.b = some (el, c) ∧ c = L.cs ∧ L.e - L.s ≤ L.cs := by
  obtain ⟨next, floor, heap⟩ := h
  simp only [elK, hK_mk] at hk
  obtain ⟨⟨cur, min, size, cells, bel, fr⟩, hb, hk⟩ := optK_ok hk
  simp only [blkK_mk] at hk
  obtain ⟨hm, hk⟩ := ifK_ok hk
  obtain ⟨he, hk⟩ := ifK_ok hk
  refine ⟨fun k' => by simp only [elK, hK_mk, hb, optK_some, blkK_mk, hm, he, ifK_true], hk, fun ρ w w0 L R hL => ?_⟩
  obtain ⟨blk, a1, a2, a3, a4, a5, a6, a7⟩ := R.loc _ _ _ hL
  have hbe : blk = ⟨cur, min, size, cells, bel, fr⟩ := by
    have : heap.get id = some blk := a1
    rw [hb] at this; exact (Option.some.inj this).symm
  subst hbe
  obtain ⟨c, el', b1, b2, b3, b4⟩ := a7 (Nat.le_of_ble_eq_true hm)
  have he' : bel = el := Nat.eq_of_beq_eq_true he
  subst he'
  exact ⟨c.size, b1.shape, b2, b3⟩

theorem liesAt_one {P : Program} {e : TypeId} (s count : Nat) (hc : P.cellsOf e = s) (hs : 1 ≤ s) (hn : 1 ≤ count) : liesAt P P.depth e count 0 e 1 = true := by
  have hd : P.depth = (2 * (P.types.size + Made.depth) + 1) + 1 := rfl
  rw [hd]
  simp only [liesAt, Bool.or_eq_true]
  left
  rw [hd]
  have h0 : ¬ s = 0 := by omega
  simp [rowAt, hc, h0, hn, sameLayout]

theorem u2p_ok (P : Program) (o : Oper) (s d u : TypeId) (x : Operand) (hs : P.underlying s = some .unsafePointer) (hd : P.underlying d = some (.pointer u)) (h : o.op = .convert s d x) : RunOk P o (runK (compU2P u (tyAt P u) (compO x))) := by
  unfold compU2P
  split
  · rename_i size bytes dd z he
    obtain ⟨i, i1, i2, i3, i4, i5⟩ := tyAt_ok he
    refine RunOk.pure (by rw [h]; rfl) fun cf t hp k hk => ?_
    simp only [runK_mk, doU2P, oE_eq] at hk
    obtain ⟨id, g, off, fin, hv, hk2⟩ := vP_ok hk
    obtain ⟨ho, hk2⟩ := ifK_ok hk2
    obtain ⟨hf, hk2⟩ := ifK_ok hk2
    obtain ⟨h1, _, h2⟩ := elK_ok hk2
    refine ⟨.p id g off fin, fun k' => by simp only [runK_mk, doU2P, oE_eq, hv, vP_p, ho, hf, ifK_true, h1], fun ρ a A w w0 R => ?_⟩
    have hx := (A x (by rw [h]; simp [Op.operands]))
    rw [hv] at hx
    have hx0 := hx
    obtain ⟨L, l1, l2, l3, l4⟩ := hx
    obtain ⟨c, c1, c2, c3⟩ := h2 ρ w w0 L R l1
    have ho' : off = 0 := Nat.eq_of_beq_eq_true ho
    have hf' : size + 1 ≤ fin := Nat.le_of_ble_eq_true hf
    have hcs : P.cellsOf u = size + 1 := by simp [Program.cellsOf, i1, i2]
    refine ⟨a.eval x, ?_, hx0⟩
    unfold execOp
    rw [h]
    simp only [run_v, l2]
    rw [Lib.run_from_unsafe w ⟨L.b, off - L.s, none⟩ hs hd i1 c1 ?_]
    · rfl
    · have e0 : off - L.s = 0 := by omega
      rw [e0, hcs]
      exact liesAt_one (size + 1) _ hcs (by omega) (by
        have : size + 1 ≤ c := by omega
        exact Nat.div_pos this (by omega))
  · exact no_ok P o

theorem i2s_ok (P : Program) (o : Oper) (s d : TypeId) (kd : IntKind) (x : Operand) (hs : P.underlying s = some (.int kd)) (hd : P.underlying d = some .string) (h : o.op = .convert s d x) : RunOk P o (doI2S (compO x)) := by
  refine RunOk.calm fun cf t hp k hk => ?_
  simp only [doI2S, oE_eq] at hk
  obtain ⟨kd', n, hv, hk2⟩ := vI_ok hk
  obtain ⟨n, rfl, hk2⟩ := natK_ok hk2
  obtain ⟨hn, hk2⟩ := ifK_ok hk2
  refine ⟨.s 1 n, fun k' => by simp only [doI2S, oE_eq, hv, vI_i, natK_ofNat, hn, ifK_true], fun ρ a A w => ?_⟩
  have hx := (A x (by rw [h]; simp [Op.operands]))
  rw [hv] at hx
  have hx' : a.eval x = .int kd' (Int.ofNat n) := hx
  have hn' : n ≤ 127 := Nat.le_of_ble_eq_true hn
  have henc : Utf8.encode (Int.ofNat n) = ⟨#[UInt8.ofNat n]⟩ := by
    unfold Utf8.encode
    have hv : Utf8.valid (Int.ofNat n) = true := by
      unfold Utf8.valid
      simp
      omega
    simp only [hv, if_true]
    have : (Int.ofNat n).toNat < 0x80 := by simp; omega
    simp only [this, if_true]
    rfl
  refine ⟨.string ⟨#[UInt8.ofNat n]⟩, ?_, srel_mk rfl ?_⟩
  · unfold execOp
    rw [h]
    simp only [hx', convert, Sem.run_bind, run_underlying hs, run_underlying hd, Result.andThen_ok, Conv.intToString, henc]
    rfl
  · show (UInt8.ofNat n).toNat * 256 ^ 0 + pk [] = n
    simp [pk]; omega

theorem sdata_ok (P : Program) (o : Oper) (x : Operand) (args : Array Operand) (tys : Array TypeId) (ha : args.toList = [x])
    (h : o.op = .call ⟨.builtin .unsafeSliceData, args, tys⟩) : RunOk P o (doSData (compO x)) := by
  refine RunOk.pure (by rw [h]; rfl) fun cf t hp k hk => ?_
  simp only [doSData, oE_eq] at hk
  have hm : x ∈ o.op.operands.toList := by rw [h]; simp [Op.operands, Call.operands, ← Array.mem_toList_iff, ha]
  have run1 : ∀ (a : Act) (w : World) (p : Option Addr) (n c : Nat) (y : Value), a.eval x = .slice p n c → (Builtin.unsafeSliceData_ tys o.type #[.slice p n c]).run P w = .ok y w → (execOp a.eval o).run P w = .ok (.value y) w := by
    intro a w p n c y hx hr
    have : (execOp a.eval o).run P w = (builtin .unsafeSliceData tys o.type (args.map fun | .const _ => true | _ => false) (args.map a.eval)).run P w := by
      unfold execOp; rw [h]; rfl
    rw [this]
    have ea : args.map a.eval = #[a.eval x] := by apply Array.ext'; simp [ha]
    rw [ea, hx]
    simp only [builtin, Sem.run_bind, hr, Result.andThen_ok]
    rfl
  rcases vL_ok hk with ⟨hv, hk2⟩ | ⟨id, g, off, len, fin, cap, hv, hk2⟩
  · refine ⟨.p0, fun k' => by simp only [doSData, oE_eq, hv, vL_l0], fun ρ a A w w0 R => ?_⟩
    have hx := A x hm
    rw [hv] at hx
    have hx' : a.eval x = .slice none 0 0 := hx
    exact ⟨.pointer none, run1 a w _ _ _ _ hx' (Lib.run_unsafeSliceData_nil w tys o.type 0 0), rfl⟩
  · obtain ⟨hl, hk2⟩ := ifK_ok hk2
    refine ⟨.p id g off fin, fun k' => by simp only [doSData, oE_eq, hv, vL_l, hl, ifK_true], fun ρ a A w w0 R => ?_⟩
    have hx := A x hm
    rw [hv] at hx
    obtain ⟨L, ad, cc, l1, hx', lc, l3, l4, l5, l6, l7⟩ := hx
    have hl' : 1 ≤ len := Nat.le_of_ble_eq_true hl
    have had : ad = ⟨L.b, off - L.s, none⟩ := by
      rcases l5 with ⟨h0, _⟩ | h0
      · omega
      · exact h0
    exact ⟨.pointer (some ad), run1 a w _ _ _ _ hx' (Lib.run_unsafeSliceData_row w tys o.type ad len cc (by omega)), L, l1, by rw [had], l3, l4⟩

theorem frzF_ok {fr n : Nat} {k : Nat → Bool} (hk : frzF fr n k = true) : ∃ m, (∀ k', frzF fr n k' = k' (m + 2)) ∧ n ≤ m ∧ (fr = 0 ∨ ∃ j, fr = j + 2 ∧ j ≤ m) := by
  match fr, hk with
  | 0, hk => exact ⟨n, fun k' => by show fN (Nat.add n 2) k' = _; rw [fN_eq], Nat.le_refl _, .inl rfl⟩
  | 1, hk => exact Bool.noConfusion hk
  | j + 2, hk => exact ⟨max j n, fun k' => by show fN (Nat.add (max j n) 2) k' = _; rw [fN_eq], Nat.le_max_right _ _, .inr ⟨j, rfl, Nat.le_max_left _ _⟩⟩
theorem FzOk.mono {fz : Nat × Nat} {s cs fr m : Nat} (h : FzOk fz s cs fr) (hm : fr = 0 ∨ ∃ j, fr = j + 2 ∧ j ≤ m) : FzOk fz s cs (m + 2) := by
  rcases hm with rfl | ⟨j, rfl, hj⟩
  · exact .inl h
  · have h' : fz.1 = fz.2 ∨ fz.2 + s ≤ j := h
    rcases h' with h' | h'
    · exact .inl h'
    · exact .inr (Nat.le_trans h' hj)
theorem HasC.mono {w : World} {b s : Nat} {c : Array Value} {el bel fr m : Nat} (h : HasC w b s c el bel fr) (hm : fr = 0 ∨ ∃ j, fr = j + 2 ∧ j ≤ m) : HasC w b s c el bel (m + 2) := by
  obtain ⟨h1, fz, h2, h3⟩ := h
  exact ⟨h1, fz, h2, h3.mono hm⟩

theorem freeze_size (w : World) (a : Addr) (n : Nat) : (w.freeze a n).heap.size = w.heap.size := by
  unfold World.freeze; split
  · rfl
  · simp
theorem freeze_os (w : World) (a : Addr) (n : Nat) : (w.freeze a n).os = w.os ∧ (w.freeze a n).output = w.output ∧ (w.freeze a n).tape = w.tape := by
  unfold World.freeze; split
  · exact ⟨rfl, rfl, rfl⟩
  · exact ⟨rfl, rfl, rfl⟩
theorem freeze_other (w : World) (a : Addr) (n b : Nat) (h : b ≠ a.block) : (w.freeze a n).heap[b]? = w.heap[b]? := by
  unfold World.freeze; split
  · rfl
  · simp only [Array.getElem?_modify]
    rw [if_neg (fun e => h e.symm)]
theorem freeze_here {w : World} {b s n : Nat} {c : Array Value} {el bel fr m : Nat} (h : HasC w b s c el bel fr) (hm : fr = 0 ∨ ∃ j, fr = j + 2 ∧ j ≤ m) (hs : s = 0) (hn : n ≤ m) : HasC (w.freeze ⟨b, 0, none⟩ n) b s c el bel (m + 2) := by
  by_cases h0 : n = 0
  · have : w.freeze ⟨b, 0, none⟩ n = w := by unfold World.freeze; rw [if_pos h0]
    rw [this]; exact h.mono hm
  obtain ⟨h1, ⟨lo, hi⟩, h2, h3⟩ := h
  have e : (w.freeze ⟨b, 0, none⟩ n).heap[b]? = some (.cells c el (if lo == hi then (0, 0 + n) else (min lo 0, max hi (0 + n)))) := by
    unfold World.freeze
    rw [if_neg h0]
    simp [Array.getElem?_modify, h2]
  refine ⟨h1, _, e, ?_⟩
  subst hs
  by_cases hlh : lo = hi
  · subst hlh
    simp only [beq_self_eq_true, if_true]
    exact .inr (by show 0 + n + 0 ≤ m; omega)
  · have hb : (lo == hi) = false := by simpa using hlh
    simp only [hb, Bool.false_eq_true, if_false]
    rcases hm with rfl | ⟨j, rfl, hj⟩
    · exact absurd h3 hlh
    · have h' : lo = hi ∨ hi + 0 ≤ j := h3
      rcases h' with h' | h'
      · exact absurd h' hlh
      · exact .inr (by show max hi (0 + n) + 0 ≤ m; omega)

theorem freeze_map {w : World} {a : Addr} {n b : Nat} {es : Array MapEntry} {clock : Nat} (h : w.heap[b]? = some (.map es clock)) : (w.freeze a n).heap[b]? = some (.map es clock) := by
  unfold World.freeze
  split
  · exact h
  · simp only [Array.getElem?_modify]
    split
    · rw [h]; rfl
    · exact h
theorem freeze_iter {w : World} {a : Addr} {n b : Nat} {o : Sum (Nat × Nat × Array Nat × Nat) (Array MapEntry × Nat)} (h : w.heap[b]? = some (objOf o)) : (w.freeze a n).heap[b]? = some (objOf o) := by
  unfold World.freeze
  split
  · exact h
  · simp only [Array.getElem?_modify]
    split
    · rw [h]; cases o <;> rfl
    · exact h
theorem freezeK_ok {h : H} {id : B} {n : Nat} {k : H → Bool} (hk : freezeK h id n k = true) :
    ∃ h', (∀ k', freezeK h id n k' = k' h') ∧ KeepF h h' ∧ h'.next = h.next ∧
      ∀ ρ w w0 g L, HRel ρ h w w0 → ρ id g = some L → L.s = 0 → HRel ρ h' (w.freeze ⟨L.b, 0, none⟩ n) w0 := by
  obtain ⟨next, floor, heap⟩ := h
  have e : ∀ k', freezeK ⟨next, floor, heap⟩ id n k' = optK (heap.get id) fun blk => blkK blk fun cur min size cells el fr =>
    ifK (B.geB floor id) fun _ => frzF fr n fun fr' => T.setK id ⟨cur, min, size, cells, el, fr'⟩ heap fun heap => k' ⟨next, floor, heap⟩ := fun _ => rfl
  rw [e] at hk
  obtain ⟨⟨cur, min, size, cells, bel, fr⟩, hb, hk⟩ := optK_ok hk
  simp only [blkK_mk] at hk
  obtain ⟨hfl, hk⟩ := ifK_ok hk
  obtain ⟨m, f1, f2, f3⟩ := frzF_ok hk
  obtain ⟨hp, h4, h5, h6⟩ := setK_ok id (⟨cur, min, size, cells, bel, m + 2⟩ : Blk) heap
  refine ⟨⟨next, floor, hp⟩, fun k' => by rw [e, hb, optK_some, blkK_mk, hfl]; simp only [ifK_true]; rw [f1, h4], ⟨rfl, fun hf i hi => h6 i (fun e => by rw [e] at hi; exact absurd (geB_ok hfl) (Nat.not_le.2 hi))⟩, rfl, fun ρ w w0 g L R hL hs => ?_⟩
  constructor
  · intro i j M hM
    obtain ⟨blk2, d1, d2, d3, d4, d5, d6, d7⟩ := R.loc _ _ _ hM
    by_cases hi : i = id
    · subst hi
      have hbe2 : blk2 = ⟨cur, min, size, cells, bel, fr⟩ := by
        have : heap.get i = some blk2 := d1
        rw [hb] at this; exact (Option.some.inj this).symm
      subst hbe2
      refine ⟨⟨cur, min, size, cells, bel, m + 2⟩, h5, d2, by rw [freeze_size]; exact d3, d4, d5, d6, fun hm => ?_⟩
      obtain ⟨c, el, b1, b2, b3, b4⟩ := d7 hm
      refine ⟨c, el, ?_, b2, b3, b4⟩
      by_cases hbb : M.b = L.b
      · have hss := (R.sep _ _ _ _ _ _ hM hL hbb).2
        rw [hbb] at b1 ⊢
        exact freeze_here b1 f3 (by rw [hss, hs]) f2
      · exact HasC.congr (b1.mono f3) (freeze_other _ _ _ _ hbb)
    · refine ⟨blk2, (h6 i hi).trans d1, d2, by rw [freeze_size]; exact d3, d4, d5, d6, fun hm => ?_⟩
      obtain ⟨c, el, b1, b2, b3, b4⟩ := d7 hm
      exact ⟨c, el, b1.congr (freeze_other _ _ _ _ fun hbb => hi (R.sep _ _ _ _ _ _ hM hL hbb).1), b2, b3, b4⟩
  · exact R.ids
  · exact R.sep
  · exact R.flo
  · intro b hb'
    rw [freeze_other]
    · exact R.old b hb'
    · have := R.up _ _ _ hL (geB_ok hfl)
      show b ≠ L.b
      omega
  · exact R.up
  · rw [(freeze_os _ _ _).2.2]; exact R.tp
  · rw [(freeze_os _ _ _).1]; exact R.os
  · rw [(freeze_os _ _ _).2.1]; exact R.out
  · rw [freeze_size]; exact R.siz
  · intro i M blk2 hM h2' h3'
    by_cases hi : i = id
    · subst hi
      have hb2 : hp.get i = some blk2 := h2'
      rw [h5] at hb2
      have hb3 := Option.some.inj hb2
      subst hb3
      obtain ⟨es, clock, q1, q2⟩ := R.mp i M _ hM hb h3'
      exact ⟨es, clock, freeze_map q1, q2⟩
    · obtain ⟨es, clock, q1, q2⟩ := R.mp i M blk2 hM ((h6 i hi).symm.trans h2') h3'
      exact ⟨es, clock, freeze_map q1, q2⟩
  · intro i j M blk2 ob hM h2' hg h3' h5'
    by_cases hi : i = id
    · subst hi
      have hb2 : hp.get i = some blk2 := h2'
      rw [h5] at hb2
      have hb3 := Option.some.inj hb2
      subst hb3
      exact freeze_iter (R.ito i j M _ ob hM hb hg h3' h5')
    · exact freeze_iter (R.ito i j M blk2 ob hM ((h6 i hi).symm.trans h2') hg h3' h5')

theorem bytes_of_rel {ρ : Emb} : ∀ (bs : List UInt8) (xs : List Value), LRel ρ (bs.map fun c => V.i .u8 (Int.ofNat c.toNat)) xs → xs = bs.map fun c => Value.int .u8 c.toNat
  | [], [], _ => rfl
  | [], _ :: _, h => h.elim
  | _ :: _, [], h => h.elim
  | c :: bs, y :: ys, h => by
    have h1 : y = .int .u8 (Int.ofNat c.toNat) := h.1
    rw [h1, bytes_of_rel bs ys h.2]; rfl

theorem ustr_ok (P : Program) (o : Oper) (t t' e : TypeId) (x y : Operand) (args : Array Operand) (tys : Array TypeId) (ha : args.toList = [x, y]) (ht : tys.toList = [t, t']) (hu : P.underlying t = some (.pointer e))
    (h : o.op = .call ⟨.builtin .unsafeString, args, tys⟩) : RunOk P o (runK (compUStr1 e (tyAt P e) (compO x) (compO y))) := by
  unfold compUStr1
  split
  · rename_i bytes z he
    obtain ⟨i, i1, i2, i3, i4, i5⟩ := tyAt_ok he
    have hs : still P o.op = false := by rw [h]; rfl
    have mx : x ∈ o.op.operands.toList := by rw [h]; simp [Op.operands, Call.operands, ← Array.mem_toList_iff, ha]
    have my : y ∈ o.op.operands.toList := by rw [h]; simp [Op.operands, Call.operands, ← Array.mem_toList_iff, ha]
    have run1 : ∀ (a : Act) (w w' : World) (v : Value), (Builtin.unsafeString_ #[t, t'] o.type #[a.eval x, a.eval y]).run P w = .ok v w' → (execOp a.eval o).run P w = .ok (.value v) w' := by
      intro a w w' v hr
      have : (execOp a.eval o).run P w = (builtin .unsafeString tys o.type (args.map fun | .const _ => true | _ => false) (args.map a.eval)).run P w := by
        unfold execOp; rw [h]; rfl
      rw [this]
      have ea : args.map a.eval = #[a.eval x, a.eval y] := by apply Array.ext'; simp [ha]
      have et : tys = #[t, t'] := by apply Array.ext'; simp [ht]
      rw [ea, et]
      simp only [builtin, Sem.run_bind, hr, Result.andThen_ok]
      rfl
    intro cf _ fr hp k hk
    simp only [runK_mk, doUStr, oE_eq] at hk
    obtain ⟨kd, n, hn, hk⟩ := vI_ok hk
    obtain ⟨hkd, hk⟩ := ifK_ok hk
    obtain ⟨n, rfl, hk⟩ := natK_ok hk
    have hkd' := kdEq_ok hkd
    subst hkd'
    rcases vPZ_ok hk with ⟨hv, hk⟩ | ⟨id, g, off, fin, hv, hk⟩
    · obtain ⟨hz, hk⟩ := ifK_ok hk
      have hz' : n = 0 := Nat.eq_of_beq_eq_true hz
      subst hz'
      refine ⟨.s 0 0, hp, fun k' => by simp only [runK_mk, doUStr, oE_eq, hn, vI_i, hkd, natK_ofNat, ifK_true, hv, vPZ_p0]; rfl, KeepF.refl hp, Nat.le_refl _, fun ρ a w w0 A R => ?_, fun hc => by rw [hs] at hc; cases hc⟩
      have hx := A x mx
      have hy := A y my
      rw [hv] at hx; rw [hn] at hy
      have hx' : a.eval x = .pointer none := hx
      have hy' : a.eval y = .int .i64 0 := hy
      refine ⟨_, w, run1 a w w (.string .empty) ?_, ρ, Ext.refl _ ρ, srel_mk (bs := .empty) rfl rfl, R⟩
      · rw [hx', hy']
        exact Lib.run_unsafeString_none w t t' o.type none
    · simp only [uStrK] at hk
      obtain ⟨ho, hk⟩ := ifK_ok hk
      obtain ⟨hn1, hk⟩ := ifK_ok hk
      obtain ⟨hn2, hk⟩ := ifK_ok hk
      obtain ⟨el1, hk, el2⟩ := elK_ok hk
      obtain ⟨vs, l1, l2, l3⟩ := loadN_ok hk
      rw [l1] at hk
      obtain ⟨bs, rfl, p1⟩ := packK_ok _ _ _ hk
      rw [p1] at hk
      obtain ⟨h', f1, f2, f3, f4⟩ := freezeK_ok hk
      have hbl : bs.length = n := by simpa using l2
      refine ⟨.s n (pk bs), h', fun k' => by simp only [runK_mk, doUStr, uStrK, oE_eq, hn, vI_i, hkd, natK_ofNat, ifK_true, hv, vPZ_p, ho, hn1, hn2, el1, l1, p1, f1]; simp, f2, by rw [f3]; exact Nat.le_refl _, fun ρ a w w0 A R => ?_, fun hc => by rw [hs] at hc; cases hc⟩
      have hx := A x mx
      have hy := A y my
      rw [hv] at hx; rw [hn] at hy
      obtain ⟨L, m1, m2, m3, m4⟩ := hx
      have ho' : off = 0 := Nat.eq_of_beq_eq_true ho
      subst ho'
      have hn1' : 1 ≤ n := Nat.le_of_ble_eq_true hn1
      have hn2' : n ≤ 1048576 := Nat.le_of_ble_eq_true hn2
      have hs0 : L.s = 0 := by omega
      obtain ⟨c, c1, c2, c3⟩ := el2 ρ w w0 L R m1
      obtain ⟨xs, x1, x2⟩ := loadN_cells (fun k' => l1 k') R m1 m3 m4
      have hxs := bytes_of_rel bs xs x1
      have hfe : n ≤ fin := by
        have := l1 fun _ => true
        obtain ⟨next, floor, heap⟩ := hp
        simp only [loadN, hK_mk] at this
        obtain ⟨⟨cur, min, size, cells, bel, fr'⟩, hb, this⟩ := optK_ok this
        simp only [blkK_mk] at this
        obtain ⟨_, this⟩ := ifK_ok this
        have := Nat.le_of_ble_eq_true (ifK_ok this).1
        simpa using this
      have hrun := Lib.run_unsafeString_row (P := P) w t t' o.type e hu (by simp [Program.cellsOf, i1, i2]) L.b c c1 bs (by intro hb; rw [hb] at hbl; simp at hbl; omega) (by rw [hbl]; omega) (by omega) (fun j z hz => by
        rw [add_none]
        have := x2 j (.int .u8 z.toNat) (by rw [hxs]; simp [hz])
        rwa [show 0 - L.s + j = 0 + j by omega] at this)
      rw [hbl] at hrun
      refine ⟨.value (.string ⟨bs.toArray⟩), w.freeze ⟨L.b, 0, none⟩ n, run1 a w _ _ ?_, ρ, Ext.refl _ ρ, srel_mk (by simpa using hbl) (by simp), f4 ρ w w0 g L R m1 hs0⟩
      rw [m2]
      have hy' : a.eval y = .int .i64 n := hy
      rw [hy', show 0 - L.s = 0 by omega]
      exact hrun
  · exact no_ok P o


/-- a packed string's bytes as cells -/
def unp : Nat → Nat → List V → List V
  | 0, _, acc => acc
  | l + 1, n, acc => unp l (n / 256) (.i .u8 (.ofNat (n % 256)) :: acc)
theorem unpK_eq : ∀ (l n : Nat) (acc : List V) (k : List V → Bool), unpK l n acc k = k (unp l n acc)
  | 0, _, _, _ => rfl
  | l + 1, n, acc, k => by
    have e : unpK (l + 1) n acc k = fN (Nat.mod n 256) fun c => fN (Nat.div n 256) fun n => unpK l n (.i .u8 (.ofNat c) :: acc) k := rfl
    rw [e, fN_eq, fN_eq, unpK_eq l]
    rfl
theorem unp_length : ∀ (l n : Nat) (acc : List V), (unp l n acc).length = l + acc.length
  | 0, _, _ => by simp [unp]
  | l + 1, n, acc => by rw [unp, unp_length l]; simp; omega
theorem unp_pk : ∀ (m : Nat) (l : List UInt8) (acc : List V), l.length = m → unp m (pk l) acc = l.map (fun b => V.i .u8 (.ofNat b.toNat)) ++ acc
  | 0, l, acc, h => by
    have : l = [] := List.eq_nil_of_length_eq_zero h
    subst this; rfl
  | m + 1, l, acc, h => by
    have hne : l ≠ [] := by intro h0; subst h0; simp at h
    obtain ⟨l', b, rfl⟩ : ∃ l' b, l = l' ++ [b] := ⟨l.dropLast, l.getLast hne, (List.dropLast_concat_getLast hne).symm⟩
    have hs := pk_split l' [b]
    have hb : pk [b] = b.toNat := by simp [pk]
    simp only [List.length_cons, List.length_nil, Nat.zero_add, Nat.pow_one, hb] at hs
    rw [unp, hs.1, hs.2, unp_pk m l' _ (by simpa using h)]
    simp
theorem bytes_rel (ρ : Emb) : ∀ (l : List UInt8), LRel ρ (l.map fun b => V.i .u8 (.ofNat b.toNat)) (l.map fun b => Value.int .u8 b.toNat)
  | [] => trivial
  | b :: l => ⟨rfl, bytes_rel ρ l⟩

/-- a new block's end is marked: the row of a conversion -/
theorem markK_ok {h : H} {id : B} {k : H → Bool} (hk : markK h id k = true) :
    ∃ h', (∀ k', markK h id k' = k' h') ∧ KeepF h h' ∧ h'.next = h.next ∧
      ∀ ρ w w2 w0 g L c el, HRel ρ h w w0 → ρ id g = some L → w.heap[L.b]? = some (.cells c el (0, 0)) → w2.heap[L.b]? = some (.cells c el (c.size, c.size + 1)) →
        (∀ b : Nat, b ≠ L.b → w2.heap[b]? = w.heap[b]?) → w2.heap.size = w.heap.size → w2.tape = w.tape → w2.os = w.os → w2.output = w.output → HRel ρ h' w2 w0 := by
  obtain ⟨next, floor, heap⟩ := h
  have e : ∀ k', markK ⟨next, floor, heap⟩ id k' = optK (heap.get id) fun blk => blkK blk fun cur min size cells el fr =>
    ifK (B.geB floor id) fun _ => ifK (Nat.beq fr 0) fun _ => T.setK id ⟨cur, min, size, cells, el, 1⟩ heap fun heap => k' ⟨next, floor, heap⟩ := fun _ => rfl
  rw [e] at hk
  obtain ⟨⟨cur, min, size, cells, bel, fr⟩, hb, hk⟩ := optK_ok hk
  simp only [blkK_mk] at hk
  obtain ⟨hfl, hk⟩ := ifK_ok hk
  obtain ⟨hfr, hk⟩ := ifK_ok hk
  obtain ⟨hp, h4, h5, h6⟩ := setK_ok id (⟨cur, min, size, cells, bel, 1⟩ : Blk) heap
  have hfr' : fr = 0 := Nat.eq_of_beq_eq_true hfr
  subst hfr'
  refine ⟨⟨next, floor, hp⟩, fun k' => by rw [e, hb, optK_some, blkK_mk, hfl]; simp only [ifK_true]; rw [hfr]; simp only [ifK_true]; rw [h4], ⟨rfl, fun hf i hi => h6 i (fun e => by rw [e] at hi; exact absurd (geB_ok hfl) (Nat.not_le.2 hi))⟩, rfl, fun ρ w w2 w0 g L cc cel R hL ho hn hoth hsz htp hos hout => ?_⟩
  constructor
  · intro i j M hM
    obtain ⟨blk2, d1, d2, d3, d4, d5, d6, d7⟩ := R.loc _ _ _ hM
    by_cases hi : i = id
    · subst hi
      have hbe2 : blk2 = ⟨cur, min, size, cells, bel, 0⟩ := by
        have : heap.get i = some blk2 := d1
        rw [hb] at this; exact (Option.some.inj this).symm
      subst hbe2
      refine ⟨⟨cur, min, size, cells, bel, 1⟩, h5, d2, by rw [hsz]; exact d3, d4, d5, d6, fun hm => ?_⟩
      obtain ⟨c, el, b1, b2, b3, b4⟩ := d7 hm
      refine ⟨c, el, ?_, b2, b3, b4⟩
      obtain ⟨b5, fz, b6, b7⟩ := b1
      by_cases hbb : M.b = L.b
      · rw [hbb, ho] at b6
        cases b6
        exact ⟨b5, _, by rw [hbb]; exact hn, .inr rfl⟩
      · exact ⟨b5, fz, by rw [hoth _ hbb]; exact b6, .inl b7⟩
    · refine ⟨blk2, (h6 i hi).trans d1, d2, by rw [hsz]; exact d3, d4, d5, d6, fun hm => ?_⟩
      obtain ⟨c, el, b1, b2, b3, b4⟩ := d7 hm
      exact ⟨c, el, b1.congr (hoth _ fun hbb => hi (R.sep _ _ _ _ _ _ hM hL hbb).1), b2, b3, b4⟩
  · exact R.ids
  · exact R.sep
  · exact R.flo
  · intro b hb'
    rw [hoth]
    · exact R.old b hb'
    · have := R.up _ _ _ hL (geB_ok hfl)
      show b ≠ L.b
      omega
  · exact R.up
  · rw [htp]; exact R.tp
  · rw [hos]; exact R.os
  · rw [hout]; exact R.out
  · rw [hsz]; exact R.siz
  · intro i M blk2 hM h2' h3'
    by_cases hi : i = id
    · subst hi
      have hb2 : hp.get i = some blk2 := h2'
      rw [h5] at hb2
      have hb3 := Option.some.inj hb2
      subst hb3
      obtain ⟨es, clock, q1, q2⟩ := R.mp i M _ hM hb h3'
      by_cases hbb : M.b = L.b
      · rw [hbb, ho] at q1; cases q1
      · exact ⟨es, clock, (hoth _ hbb).trans q1, q2⟩
    · obtain ⟨es, clock, q1, q2⟩ := R.mp i M blk2 hM ((h6 i hi).symm.trans h2') h3'
      exact ⟨es, clock, (hoth _ fun hbb => hi (R.sep _ _ _ _ _ _ hM hL hbb).1).trans q1, q2⟩
  · intro i j M blk2 ob hM h2' hg h3' h5'
    by_cases hi : i = id
    · subst hi
      have hb2 : hp.get i = some blk2 := h2'
      rw [h5] at hb2
      have hb3 := Option.some.inj hb2
      subst hb3
      have q1 := R.ito i j M _ ob hM hb hg h3' h5'
      by_cases hbb : M.b = L.b
      · rw [hbb, ho] at q1; cases ob <;> cases q1
      · exact (hoth _ hbb).trans q1
    · exact (hoth _ fun hbb => hi (R.sep _ _ _ _ _ _ hM hL hbb).1).trans (R.ito i j M blk2 ob hM ((h6 i hi).symm.trans h2') hg h3' h5')

theorem s2b_ok (P : Program) (o : Oper) (s d e : TypeId) (x : Operand) (hs : P.underlying s = some .string) (hd : P.underlying d = some (.slice e)) (h : o.op = .convert s d x) :
    RunOk P o (runK (compS2B e (tyAt P e) (compO x))) := by
  unfold compS2B
  split
  · rename_i b z he
    obtain ⟨j, j1, j2, j3, j4, j5⟩ := tyAt_ok he
    intro cf _ t hp k hk
    simp only [runK_mk, doS2B, oE_eq] at hk
    obtain ⟨l, n, hv, hk⟩ := vS_ok hk
    obtain ⟨hl, hk⟩ := ifK_ok hk
    rw [unpK_eq] at hk
    obtain ⟨h1, a1, a2, a3, a4⟩ := alloc_ok hk
    rw [a1] at hk
    obtain ⟨h2, m1, m2, m3, m4⟩ := markK_ok hk
    refine ⟨.l hp.next 0 0 l l none, h2, fun k' => by simp only [runK_mk, doS2B, oE_eq, hv, vS_s, hl, ifK_true, unpK_eq, a1, m1], a2.trans a3 m2, by rw [m3]; exact a3, fun ρ a w w0 A R => ?_, fun hc => by rw [h] at hc; cases hc⟩
    have hx := (A x (by rw [h]; simp [Op.operands]))
    rw [hv] at hx
    obtain ⟨bs, hx', e1, e2, e3⟩ := srel hx
    have R1 : HRel ρ hp w.drew w0 := ⟨R.loc, R.ids, R.sep, R.flo, R.old, R.up, R.tp, R.os, R.out, R.siz, R.mp, R.ito⟩
    have hge := grownCap_ge w bs.size 0 e
    have hcs : (Lib.bytesCells w e bs).size = grownCap w bs.size 0 e := by
      have : bs.data.size = bs.size := rfl
      simp [Lib.bytesCells]; omega
    have hun : unp l n [] = bs.data.toList.map fun b => V.i .u8 (.ofNat b.toNat) := by rw [← e2, unp_pk l bs.data.toList [] e1, List.append_nil]
    have hlen : (unp l n []).length = l := by rw [unp_length]; simp
    obtain ⟨ρ', x1, x2, x3⟩ := a4 ρ w.drew w0 (Lib.bytesCells w e bs) 0 _ R1 (by rw [hlen, hcs]; omega) rfl (fun i v y hv hy => by
      rw [hun] at hv
      have hi : i < bs.data.toList.length := by have := (List.getElem?_eq_some_iff.1 hv).1; simpa using this
      have hi' : i < bs.data.size := by simpa using hi
      unfold Lib.bytesCells at hy
      rw [Array.getElem?_append_left (by simpa using hi')] at hy
      rw [List.getElem?_map, List.getElem?_eq_getElem hi] at hv
      rw [Array.getElem?_map, Array.getElem?_eq_getElem hi'] at hy
      cases hv; cases hy
      show Value.int .u8 _ = _
      simp) rfl
    rw [hlen] at x2
    have x2' : ρ' hp.next 0 = some ⟨w.heap.size, 0, l, (Lib.bytesCells w e bs).size, none⟩ := x2
    have hR := m4 ρ' _ (Lib.bytesWorld w e bs) w0 0 _ (Lib.bytesCells w e bs) e x3 x2' (alloc_get_new w.drew _) (Lib.bytesWorld_at_new w e bs)
      (fun b hb => by
        have hb' : b ≠ w.heap.size := hb
        by_cases hlt : b < w.heap.size
        · rw [Lib.bytesWorld_at_old w e bs b hlt, alloc_get_old w.drew _ hlt]; rfl
        · rw [Array.getElem?_eq_none (by rw [Lib.bytesWorld_size]; omega), Array.getElem?_eq_none (by rw [alloc_size]; show w.heap.size + 1 ≤ b; omega)])
      (by rw [Lib.bytesWorld_size, alloc_size]; rfl)
      ((freeze_os _ _ _).2.2) ((freeze_os _ _ _).1) ((freeze_os _ _ _).2.1)
    refine ⟨.value (.slice (some ⟨w.heap.size, 0, none⟩) l (grownCap w bs.size 0 e)), Lib.bytesWorld w e bs, ?_, ρ', x1, ⟨_, _, _, x2', rfl, by omega, Nat.zero_le _, Nat.le_refl _, .inr rfl, fun d hd => (by cases hd), fun _ => .inr ⟨1, Nat.le_refl _, by omega, by show 0 - 0 + grownCap w bs.size 0 e * 1 ≤ (Lib.bytesCells w e bs).size; omega⟩⟩, hR⟩
    unfold execOp
    rw [h]
    simp only [hx', Sem.run_bind, Lib.run_convert_string_bytes w s d e bs hs hd j5, Result.andThen_ok, e3]
    rfl
  · exact no_ok P o

end Go.Ev
