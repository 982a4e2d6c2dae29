/- Texts of ours, without what this claim does not use: EvU EvF EvG EvMp EvCh EvH. No condition. -/
import Derived.Test.YtmlcddeikgechaaPkItemBack1
import Derived.Lib.Builder
import Derived.Lib.UnsafeStr
import Derived.Laws.Externs
import Derived.KernelRfl
import Derived.Lib.ConvBytes
import Derived.Laws.AppendOwn
import Derived.Laws.StructEq
import Derived.Lib.Bytealg
import Derived.MapKept
import Derived.Conc.LoneSelectN
import Derived.Conc.Own
import Derived.Conc.EventLaws
import Derived.Conc.LoneCalls
set_option linter.all false
namespace Go.Ev
open Go
theorem vPZ_ok {v : V} {z : Unit → Bool} {k : B → Nat → Nat → Nat → Bool} (h : vPZ v z k = true) : (v = .p0 ∧ z () = true) ∨ ∃ id g off fin, v = .p id g off fin ∧ k id g off fin = true := by
  cases v <;> first | exact Bool.noConfusion h | exact .inl ⟨rfl, h⟩ | exact .inr ⟨_, _, _, _, rfl, h⟩
@[simp] theorem vPZ_p0 (z : Unit → Bool) (k : B → Nat → Nat → Nat → Bool) : vPZ .p0 z k = z () := rfl
@[simp] theorem vPZ_p (id : B) (g off fin : Nat) (z : Unit → Bool) (k : B → Nat → Nat → Nat → Bool) : vPZ (.p id g off fin) z k = k id g off fin := rfl
theorem run_eqGuard_ptr (P : Program) (w : World) (op : BinOp) (t : TypeId) (x y : Operand) (p q : Option Addr) : (eqGuard op t x y (.pointer p) (.pointer q)).run P w = .ok () w := by
  unfold eqGuard
  cases op <;> rfl
theorem run_ptr_eq {P : Program} {tx e : TypeId} {i : TypeInfo} (hu : P.underlying tx = some (.pointer e)) (hi : P.info? e = some i) (hs : i.size ≠ 0) (p q : Option Addr)
    (hb : ∀ a b, p = some a → q = some b → a.block = b.block) (w : World) : (Op.equal tx (.pointer p) (.pointer q)).run P w = .ok (p == q) w := by
  unfold Op.equal Op.maxDepth Op.equalIn
  simp only [Sem.run_bind, run_underlying hu, Result.andThen_ok]
  cases p with
  | none => cases q <;> rfl
  | some a =>
    cases q with
    | none => rfl
    | some b =>
      simp only [Sem.run_bind, run_sizeOf' hi, Result.andThen_ok, ne_eq, hs, not_false_eq_true, if_true]
      unfold sameAddr
      have h := hb a b rfl rfl
      simp only [h, beq_self_eq_true, if_true]
      rfl
theorem ptr_ok (P : Program) (o : Oper) (ne : Bool) (tx e ty : TypeId) (x y : Operand) (hu : P.underlying tx = some (.pointer e)) (h : o.op = .binOp (if ne then .neq else .eql) tx x y ty) :
    RunOk P o (runK (compPtr ne (tyAt P e) (compO x) (compO y))) := by
  unfold compPtr
  split
  · rename_i size bytes d z he
    obtain ⟨i, i1, i2, i3, i4, i5⟩ := tyAt_ok he
    refine RunOk.calm fun cf t hp k hk => ?_
    simp only [runK_mk, doPtr, oE_eq] at hk
    have fn1 : ∀ (b : Bool), (∀ k', doPtr ne (compO x) (compO y) cf t hp k' = k' (.b (xor ne b)) hp) →
        (∀ ρ vx vy, VRel ρ (oV (compO x) t) vx → VRel ρ (oV (compO y) t) vy → ∃ p q, vx = .pointer p ∧ vy = .pointer q ∧ (p == q) = b ∧ ∀ a c, p = some a → q = some c → a.block = c.block) →
        ∃ v, (∀ k', runK ⟨doPtr ne (compO x) (compO y)⟩ cf t hp k' = k' v hp) ∧ ∀ ρ a, ORel ρ t a o.op.operands.toList → ∀ w, ∃ x, (execOp a.eval o).run P w = .ok (.value x) w ∧ VRel ρ v x := by
      intro b h1 h2
      refine ⟨.b (xor ne b), h1, fun ρ a A w => ?_⟩
      obtain ⟨p, q, hx, hy, hpq, hbl⟩ := h2 ρ _ _ (A x (by rw [h]; simp [Op.operands])) (A y (by rw [h]; simp [Op.operands]))
      refine ⟨.bool (xor ne b), ?_, rfl⟩
      have he := run_ptr_eq hu i1 (by rw [i2]; simp) p q hbl w
      have hg := run_eqGuard_ptr P w (if ne then .neq else .eql) tx x y p q
      unfold execOp
      rw [h]
      cases ne
      · simp only [Bool.false_eq_true, if_false] at hg ⊢
        have e1 : binOp .eql tx (.pointer p) (.pointer q) = (do pure (.bool (← Op.equal tx (.pointer p) (.pointer q)))) := rfl
        simp only [hx, hy, Sem.run_bind, hg, Result.andThen_ok, e1, he, hpq]
        cases b <;> rfl
      · simp only [if_true] at hg ⊢
        have e1 : binOp .neq tx (.pointer p) (.pointer q) = (do pure (.bool (!(← Op.equal tx (.pointer p) (.pointer q))))) := rfl
        simp only [hx, hy, Sem.run_bind, hg, Result.andThen_ok, e1, he, hpq]
        cases b <;> rfl
    rcases vPZ_ok hk with ⟨hx, hk⟩ | ⟨id, g, off, fn, hx, hk⟩
    · rcases vPZ_ok hk with ⟨hy, hk⟩ | ⟨id', g', off', fn', hy, hk⟩
      · refine fn1 true (fun k' => by simp only [doPtr, oE_eq, hx, hy, vPZ_p0, fB_eq]; cases ne <;> rfl) fun ρ vx vy r1 r2 => ?_
        rw [hx] at r1; rw [hy] at r2
        exact ⟨none, none, r1, r2, rfl, fun a c ha => by cases ha⟩
      · refine fn1 false (fun k' => by simp only [doPtr, oE_eq, hx, hy, vPZ_p0, vPZ_p, fB_eq]; cases ne <;> rfl) fun ρ vx vy r1 r2 => ?_
        rw [hx] at r1; rw [hy] at r2
        obtain ⟨L, l1, l2, _⟩ := r2
        exact ⟨none, _, r1, l2, rfl, fun a c ha => by cases ha⟩
    · simp only [ptrK] at hk
      rcases vPZ_ok hk with ⟨hy, hk⟩ | ⟨id', g', off', fn', hy, hk⟩
      · refine fn1 false (fun k' => by simp only [doPtr, ptrK, oE_eq, hx, hy, vPZ_p0, vPZ_p, fB_eq]; cases ne <;> rfl) fun ρ vx vy r1 r2 => ?_
        rw [hx] at r1; rw [hy] at r2
        obtain ⟨L, l1, l2, _⟩ := r1
        exact ⟨_, none, l2, r2, rfl, fun a c _ hc => by cases hc⟩
      · obtain ⟨hid, hk⟩ := ifK_ok hk
        obtain ⟨hg, hk⟩ := ifK_ok hk
        refine fn1 (Nat.beq off off') (fun k' => by simp only [doPtr, ptrK, oE_eq, hx, hy, vPZ_p, fB_eq, hid, hg, ifK_true]) fun ρ vx vy r1 r2 => ?_
        rw [hx] at r1; rw [hy] at r2
        have e1 := B.val_inj (Nat.eq_of_beq_eq_true hid)
        have e2 := Nat.eq_of_beq_eq_true hg
        subst e1; subst e2
        obtain ⟨L, l1, l2, l3, _⟩ := r1
        obtain ⟨M, m1, m2, m3, _⟩ := r2
        rw [l1] at m1
        cases m1
        refine ⟨_, _, l2, m2, ?_, fun a c ha hc => by cases ha; cases hc; rfl⟩
        by_cases ho : off = off'
        · subst ho; simp
        · have : Nat.beq off off' = false := by
            cases hb : Nat.beq off off' with
            | false => rfl
            | true => exact absurd (Nat.eq_of_beq_eq_true hb) ho
          rw [this]
          have hne : off - L.s ≠ off' - L.s := by omega
          simp [hne]
  · exact no_ok P o
theorem nilCheck_ok (P : Program) (o : Oper) (x : Operand) (h : o.op = .nilCheck x) : RunOk P o (doNilCheck (compO x)) := by
  refine RunOk.calm fun cf t hp k hk => ?_
  simp only [doNilCheck, oE_eq] at hk
  obtain ⟨id, g, off, fin, hv, hk2⟩ := vP_ok hk
  refine ⟨.p id g off fin, fun k' => by simp only [doNilCheck, oE_eq, hv, vP_p], fun ρ a A w => ?_⟩
  have hx := (A x (by rw [h]; simp [Op.operands]))
  rw [hv] at hx
  have hx0 := hx
  obtain ⟨L, l1, l2, l3, l4⟩ := hx
  refine ⟨a.eval x, ?_, hx0⟩
  unfold execOp
  rw [h]
  simp only [l2]
  rfl
theorem HasC.shape {w : World} {b s : Nat} {c : Array Value} {el bel fr : Nat} (h : HasC w b s c el bel fr) : w.shape? b = some (bel, c.size) := by
  obtain ⟨rfl, fz, h, _⟩ := h
  simp [World.shape?, h]
theorem p2u_ok (P : Program) (o : Oper) (s d e : TypeId) (x : Operand) (hs : P.underlying s = some (.pointer e)) (hd : P.underlying d = some .unsafePointer) (h : o.op = .convert s d x) : RunOk P o (runK (compP2U (tyAt P e) (compO x))) := by
  unfold compP2U
  split
  · rename_i size bytes dd z he
    obtain ⟨i, i1, i2, i3, i4, i5⟩ := tyAt_ok he
    refine RunOk.pure (by rw [h]; rfl) fun cf t hp k hk => ?_
    simp only [runK_mk, doP2U, oE_eq] at hk
    obtain ⟨id, g, off, fin, hv, hk2⟩ := vP_ok hk
    obtain ⟨v, h1, h2⟩ := load1_ok hk2
    refine ⟨.p id g off fin, fun k' => by simp only [runK_mk, doP2U, oE_eq, hv, vP_p, h1], fun ρ a A w w0 R => ?_⟩
    have hx := (A x (by rw [h]; simp [Op.operands]))
    rw [hv] at hx
    have hx0 := hx
    obtain ⟨L, l1, l2, l3, l4⟩ := hx
    obtain ⟨y, y1, y2⟩ := h2 ρ w w0 L R l1 l3 l4
    refine ⟨a.eval x, ?_, hx0⟩
    have hsh : ∃ e' cells, w.shape? L.b = some (e', cells) ∧ off - L.s < cells := by
      simp only [World.cell?] at y2
      split at y2
      · rename_i c el fz hh
        exact ⟨el, c.size, by simp [World.shape?, hh], (Array.getElem?_eq_some_iff.1 y2).1⟩
      · cases y2
    obtain ⟨e', cells, q1, q2⟩ := hsh
    unfold execOp
    rw [h]
    simp only [run_v, l2]
    rw [Lib.run_to_unsafe w ⟨L.b, off - L.s, none⟩ hs hd i1 (by rw [i2]; simp) q1 q2]
    rfl
  · exact no_ok P o
theorem elK_ok {h : H} {id : B} {g el : Nat} {k : Unit → Bool} (hk : elK h id g el k = true) : (∀ k', elK h id g el k' = k' ()) ∧ k () = true ∧
    ∀ ρ w w0 L, HRel ρ h w w0 → ρ id g = some L → ∃ c, w.shape? L.b = some (el, c) ∧ c = L.cs ∧ L.e - L.s ≤ L.cs := by
  obtain ⟨next, floor, heap⟩ := h
  simp only [elK, hK_mk] at hk
  obtain ⟨⟨cur, min, size, cells, bel, fr⟩, hb, hk⟩ := optK_ok hk
  simp only [blkK_mk] at hk
  obtain ⟨hm, hk⟩ := ifK_ok hk
  obtain ⟨he, hk⟩ := ifK_ok hk
  refine ⟨fun k' => by simp only [elK, hK_mk, hb, optK_some, blkK_mk, hm, he, ifK_true], hk, fun ρ w w0 L R hL => ?_⟩
  obtain ⟨blk, a1, a2, a3, a4, a5, a6, a7⟩ := R.loc _ _ _ hL
  have hbe : blk = ⟨cur, min, size, cells, bel, fr⟩ := by
    have : heap.get id = some blk := a1
    rw [hb] at this; exact (Option.some.inj this).symm
  subst hbe
  obtain ⟨c, el', b1, b2, b3, b4⟩ := a7 (Nat.le_of_ble_eq_true hm)
  have he' : bel = el := Nat.eq_of_beq_eq_true he
  subst he'
  exact ⟨c.size, b1.shape, b2, b3⟩
theorem liesAt_one {P : Program} {e : TypeId} (s count : Nat) (hc : P.cellsOf e = s) (hs : 1 ≤ s) (hn : 1 ≤ count) : liesAt P P.depth e count 0 e 1 = true := by
  have hd : P.depth = (2 * (P.types.size + Made.depth) + 1) + 1 := rfl
  rw [hd]
  simp only [liesAt, Bool.or_eq_true]
  left
  rw [hd]
  have h0 : ¬ s = 0 := by omega
  simp [rowAt, hc, h0, hn, sameLayout]
theorem u2p_ok (P : Program) (o : Oper) (s d u : TypeId) (x : Operand) (hs : P.underlying s = some .unsafePointer) (hd : P.underlying d = some (.pointer u)) (h : o.op = .convert s d x) : RunOk P o (runK (compU2P u (tyAt P u) (compO x))) := by
  unfold compU2P
  split
  · rename_i size bytes dd z he
    obtain ⟨i, i1, i2, i3, i4, i5⟩ := tyAt_ok he
    refine RunOk.pure (by rw [h]; rfl) fun cf t hp k hk => ?_
    simp only [runK_mk, doU2P, oE_eq] at hk
    obtain ⟨id, g, off, fin, hv, hk2⟩ := vP_ok hk
    obtain ⟨ho, hk2⟩ := ifK_ok hk2
    obtain ⟨hf, hk2⟩ := ifK_ok hk2
    obtain ⟨h1, _, h2⟩ := elK_ok hk2
    refine ⟨.p id g off fin, fun k' => by simp only [runK_mk, doU2P, oE_eq, hv, vP_p, ho, hf, ifK_true, h1], fun ρ a A w w0 R => ?_⟩
    have hx := (A x (by rw [h]; simp [Op.operands]))
    rw [hv] at hx
    have hx0 := hx
    obtain ⟨L, l1, l2, l3, l4⟩ := hx
    obtain ⟨c, c1, c2, c3⟩ := h2 ρ w w0 L R l1
    have ho' : off = 0 := Nat.eq_of_beq_eq_true ho
    have hf' : size + 1 ≤ fin := Nat.le_of_ble_eq_true hf
    have hcs : P.cellsOf u = size + 1 := by simp [Program.cellsOf, i1, i2]
    refine ⟨a.eval x, ?_, hx0⟩
    unfold execOp
    rw [h]
    simp only [run_v, l2]
    rw [Lib.run_from_unsafe w ⟨L.b, off - L.s, none⟩ hs hd i1 c1 ?_]
    · rfl
    · have e0 : off - L.s = 0 := by omega
      rw [e0, hcs]
      exact liesAt_one (size + 1) _ hcs (by omega) (by
        have : size + 1 ≤ c := by omega
        exact Nat.div_pos this (by omega))
  · exact no_ok P o
theorem i2s_ok (P : Program) (o : Oper) (s d : TypeId) (kd : IntKind) (x : Operand) (hs : P.underlying s = some (.int kd)) (hd : P.underlying d = some .string) (h : o.op = .convert s d x) : RunOk P o (doI2S (compO x)) := by
  refine RunOk.calm fun cf t hp k hk => ?_
  simp only [doI2S, oE_eq] at hk
  obtain ⟨kd', n, hv, hk2⟩ := vI_ok hk
  obtain ⟨n, rfl, hk2⟩ := natK_ok hk2
  obtain ⟨hn, hk2⟩ := ifK_ok hk2
  refine ⟨.s 1 n, fun k' => by simp only [doI2S, oE_eq, hv, vI_i, natK_ofNat, hn, ifK_true], fun ρ a A w => ?_⟩
  have hx := (A x (by rw [h]; simp [Op.operands]))
  rw [hv] at hx
  have hx' : a.eval x = .int kd' (Int.ofNat n) := hx
  have hn' : n ≤ 127 := Nat.le_of_ble_eq_true hn
  have henc : Utf8.encode (Int.ofNat n) = ⟨#[UInt8.ofNat n]⟩ := by
    unfold Utf8.encode
    have hv : Utf8.valid (Int.ofNat n) = true := by
      unfold Utf8.valid
      simp
      omega
    simp only [hv, if_true]
    have : (Int.ofNat n).toNat < 0x80 := by simp; omega
    simp only [this, if_true]
    rfl
  refine ⟨.string ⟨#[UInt8.ofNat n]⟩, ?_, srel_mk rfl ?_⟩
  · unfold execOp
    rw [h]
    simp only [hx', convert, Sem.run_bind, run_underlying hs, run_underlying hd, Result.andThen_ok, Conv.intToString, henc]
    rfl
  · show (UInt8.ofNat n).toNat * 256 ^ 0 + pk [] = n
    simp [pk]; omega
theorem sdata_ok (P : Program) (o : Oper) (x : Operand) (args : Array Operand) (tys : Array TypeId) (ha : args.toList = [x])
    (h : o.op = .call ⟨.builtin .unsafeSliceData, args, tys⟩) : RunOk P o (doSData (compO x)) := by
  refine RunOk.pure (by rw [h]; rfl) fun cf t hp k hk => ?_
  simp only [doSData, oE_eq] at hk
  have hm : x ∈ o.op.operands.toList := by rw [h]; simp [Op.operands, Call.operands, ← Array.mem_toList_iff, ha]
  have run1 : ∀ (a : Act) (w : World) (p : Option Addr) (n c : Nat) (y : Value), a.eval x = .slice p n c → (Builtin.unsafeSliceData_ tys o.type #[.slice p n c]).run P w = .ok y w → (execOp a.eval o).run P w = .ok (.value y) w := by
    intro a w p n c y hx hr
    have : (execOp a.eval o).run P w = (builtin .unsafeSliceData tys o.type (args.map fun | .const _ => true | _ => false) (args.map a.eval)).run P w := by
      unfold execOp; rw [h]; rfl
    rw [this]
    have ea : args.map a.eval = #[a.eval x] := by apply Array.ext'; simp [ha]
    rw [ea, hx]
    simp only [builtin, Sem.run_bind, hr, Result.andThen_ok]
    rfl
  rcases vL_ok hk with ⟨hv, hk2⟩ | ⟨id, g, off, len, fin, cap, hv, hk2⟩
  · refine ⟨.p0, fun k' => by simp only [doSData, oE_eq, hv, vL_l0], fun ρ a A w w0 R => ?_⟩
    have hx := A x hm
    rw [hv] at hx
    have hx' : a.eval x = .slice none 0 0 := hx
    exact ⟨.pointer none, run1 a w _ _ _ _ hx' (Lib.run_unsafeSliceData_nil w tys o.type 0 0), rfl⟩
  · obtain ⟨hl, hk2⟩ := ifK_ok hk2
    refine ⟨.p id g off fin, fun k' => by simp only [doSData, oE_eq, hv, vL_l, hl, ifK_true], fun ρ a A w w0 R => ?_⟩
    have hx := A x hm
    rw [hv] at hx
    obtain ⟨L, ad, cc, l1, hx', lc, l3, l4, l5, l6, l7⟩ := hx
    have hl' : 1 ≤ len := Nat.le_of_ble_eq_true hl
    have had : ad = ⟨L.b, off - L.s, none⟩ := by
      rcases l5 with ⟨h0, _⟩ | h0
      · omega
      · exact h0
    exact ⟨.pointer (some ad), run1 a w _ _ _ _ hx' (Lib.run_unsafeSliceData_row w tys o.type ad len cc (by omega)), L, l1, by rw [had], l3, l4⟩
theorem frzF_ok {fr n : Nat} {k : Nat → Bool} (hk : frzF fr n k = true) : ∃ m, (∀ k', frzF fr n k' = k' (m + 2)) ∧ n ≤ m ∧ (fr = 0 ∨ ∃ j, fr = j + 2 ∧ j ≤ m) := by
  match fr, hk with
  | 0, hk => exact ⟨n, fun k' => by show fN (Nat.add n 2) k' = _; rw [fN_eq], Nat.le_refl _, .inl rfl⟩
  | 1, hk => exact Bool.noConfusion hk
  | j + 2, hk => exact ⟨max j n, fun k' => by show fN (Nat.add (max j n) 2) k' = _; rw [fN_eq], Nat.le_max_right _ _, .inr ⟨j, rfl, Nat.le_max_left _ _⟩⟩
theorem FzOk.mono {fz : Nat × Nat} {s cs fr m : Nat} (h : FzOk fz s cs fr) (hm : fr = 0 ∨ ∃ j, fr = j + 2 ∧ j ≤ m) : FzOk fz s cs (m + 2) := by
  rcases hm with rfl | ⟨j, rfl, hj⟩
  · exact .inl h
  · have h' : fz.1 = fz.2 ∨ fz.2 + s ≤ j := h
    rcases h' with h' | h'
    · exact .inl h'
    · exact .inr (Nat.le_trans h' hj)
theorem HasC.mono {w : World} {b s : Nat} {c : Array Value} {el bel fr m : Nat} (h : HasC w b s c el bel fr) (hm : fr = 0 ∨ ∃ j, fr = j + 2 ∧ j ≤ m) : HasC w b s c el bel (m + 2) := by
  obtain ⟨h1, fz, h2, h3⟩ := h
  exact ⟨h1, fz, h2, h3.mono hm⟩
theorem freeze_size (w : World) (a : Addr) (n : Nat) : (w.freeze a n).heap.size = w.heap.size := by
  unfold World.freeze; split
  · rfl
  · simp
theorem freeze_os (w : World) (a : Addr) (n : Nat) : (w.freeze a n).os = w.os ∧ (w.freeze a n).output = w.output ∧ (w.freeze a n).tape = w.tape := by
  unfold World.freeze; split
  · exact ⟨rfl, rfl, rfl⟩
  · exact ⟨rfl, rfl, rfl⟩
theorem freeze_other (w : World) (a : Addr) (n b : Nat) (h : b ≠ a.block) : (w.freeze a n).heap[b]? = w.heap[b]? := by
  unfold World.freeze; split
  · rfl
  · simp only [Array.getElem?_modify]
    rw [if_neg (fun e => h e.symm)]
theorem freeze_here {w : World} {b s n : Nat} {c : Array Value} {el bel fr m : Nat} (h : HasC w b s c el bel fr) (hm : fr = 0 ∨ ∃ j, fr = j + 2 ∧ j ≤ m) (hs : s = 0) (hn : n ≤ m) : HasC (w.freeze ⟨b, 0, none⟩ n) b s c el bel (m + 2) := by
  by_cases h0 : n = 0
  · have : w.freeze ⟨b, 0, none⟩ n = w := by unfold World.freeze; rw [if_pos h0]
    rw [this]; exact h.mono hm
  obtain ⟨h1, ⟨lo, hi⟩, h2, h3⟩ := h
  have e : (w.freeze ⟨b, 0, none⟩ n).heap[b]? = some (.cells c el (if lo == hi then (0, 0 + n) else (min lo 0, max hi (0 + n)))) := by
    unfold World.freeze
    rw [if_neg h0]
    simp [Array.getElem?_modify, h2]
  refine ⟨h1, _, e, ?_⟩
  subst hs
  by_cases hlh : lo = hi
  · subst hlh
    simp only [beq_self_eq_true, if_true]
    exact .inr (by show 0 + n + 0 ≤ m; omega)
  · have hb : (lo == hi) = false := by simpa using hlh
    simp only [hb, Bool.false_eq_true, if_false]
    rcases hm with rfl | ⟨j, rfl, hj⟩
    · exact absurd h3 hlh
    · have h' : lo = hi ∨ hi + 0 ≤ j := h3
      rcases h' with h' | h'
      · exact absurd h' hlh
      · exact .inr (by show max hi (0 + n) + 0 ≤ m; omega)
theorem freeze_ob {w : World} {a : Addr} {n b : Nat} {ρ : Emb} {c : Bool} {blk : Blk} {o : Obj} (h : w.heap[b]? = some o) (k : ObOk ρ c blk o) : (w.freeze a n).heap[b]? = some o := by
  unfold World.freeze
  split
  · exact h
  · simp only [Array.getElem?_modify]
    split
    · rw [h]
      cases o with
      | cells c e f => exact k.noCells.elim
      | _ => rfl
    · exact h
theorem freeze_iter {w : World} {a : Addr} {n b : Nat} {o : ItO} (h : w.heap[b]? = some (objOf o)) : (w.freeze a n).heap[b]? = some (objOf o) := by
  unfold World.freeze
  split
  · exact h
  · simp only [Array.getElem?_modify]
    split
    · rw [h]
      cases o with
      | inl d => rfl
      | inr d => rfl
      | obj o ho => cases o with
        | cells c e f => exact absurd rfl (ho c e f)
        | _ => rfl
    · exact h
theorem freezeK_ok {h : H} {id : B} {n : Nat} {k : H → Bool} (hk : freezeK h id n k = true) :
    ∃ h', (∀ k', freezeK h id n k' = k' h') ∧ KeepF h h' ∧ h'.next = h.next ∧
      ∀ ρ w w0 g L, HRel ρ h w w0 → ρ id g = some L → L.s = 0 → HRel ρ h' (w.freeze ⟨L.b, 0, none⟩ n) w0 := by
  obtain ⟨next, floor, heap⟩ := h
  have e : ∀ k', freezeK ⟨next, floor, heap⟩ id n k' = optK (heap.get id) fun blk => blkK blk fun cur min size cells el fr =>
    ifK (B.geB floor id) fun _ => frzF fr n fun fr' => T.setK id ⟨cur, min, size, cells, el, fr'⟩ heap fun heap => k' ⟨next, floor, heap⟩ := fun _ => rfl
  rw [e] at hk
  obtain ⟨⟨cur, min, size, cells, bel, fr⟩, hb, hk⟩ := optK_ok hk
  simp only [blkK_mk] at hk
  obtain ⟨hfl, hk⟩ := ifK_ok hk
  obtain ⟨m, f1, f2, f3⟩ := frzF_ok hk
  obtain ⟨hp, h4, h5, h6⟩ := setK_ok id (⟨cur, min, size, cells, bel, m + 2⟩ : Blk) heap
  refine ⟨⟨next, floor, hp⟩, fun k' => by rw [e, hb, optK_some, blkK_mk, hfl]; simp only [ifK_true]; rw [f1, h4], ⟨rfl, fun hf i hi => h6 i (fun e => by rw [e] at hi; exact absurd (geB_ok hfl) (Nat.not_le.2 hi))⟩, rfl, fun ρ w w0 g L R hL hs => ?_⟩
  constructor
  · intro i j M hM
    obtain ⟨blk2, d1, d2, d3, d4, d5, d6, d7⟩ := R.loc _ _ _ hM
    by_cases hi : i = id
    · subst hi
      have hbe2 : blk2 = ⟨cur, min, size, cells, bel, fr⟩ := by
        have : heap.get i = some blk2 := d1
        rw [hb] at this; exact (Option.some.inj this).symm
      subst hbe2
      refine ⟨⟨cur, min, size, cells, bel, m + 2⟩, h5, d2, by rw [freeze_size]; exact d3, d4, d5, d6, fun hm => ?_⟩
      obtain ⟨c, el, b1, b2, b3, b4⟩ := d7 hm
      refine ⟨c, el, ?_, b2, b3, b4⟩
      by_cases hbb : M.b = L.b
      · have hss := (R.sep _ _ _ _ _ _ hM hL hbb).2
        rw [hbb] at b1 ⊢
        exact freeze_here b1 f3 (by rw [hss, hs]) f2
      · exact HasC.congr (b1.mono f3) (freeze_other _ _ _ _ hbb)
    · refine ⟨blk2, (h6 i hi).trans d1, d2, by rw [freeze_size]; exact d3, d4, d5, d6, fun hm => ?_⟩
      obtain ⟨c, el, b1, b2, b3, b4⟩ := d7 hm
      exact ⟨c, el, b1.congr (freeze_other _ _ _ _ fun hbb => hi (R.sep _ _ _ _ _ _ hM hL hbb).1), b2, b3, b4⟩
  · exact R.ids
  · exact R.sep
  · exact R.flo
  · intro b hb'
    rw [freeze_other]
    · exact R.old b hb'
    · have := R.up _ _ _ hL (geB_ok hfl)
      show b ≠ L.b
      omega
  · exact R.up
  · rw [(freeze_os _ _ _).2.2]; exact R.tp
  · rw [(freeze_os _ _ _).1]; exact R.os
  · rw [(freeze_os _ _ _).2.1]; exact R.out
  · rw [freeze_size]; exact R.siz
  · intro i M blk2 hM h2' kc h3'
    by_cases hi : i = id
    · subst hi
      have hb2 : hp.get i = some blk2 := h2'
      rw [h5] at hb2
      have hb3 := Option.some.inj hb2
      subst hb3
      obtain ⟨o, q1, q2⟩ := R.mp i M _ hM hb kc h3'
      exact ⟨o, freeze_ob q1 q2, by cases kc <;> exact q2⟩
    · obtain ⟨o, q1, q2⟩ := R.mp i M blk2 hM ((h6 i hi).symm.trans h2') kc h3'
      exact ⟨o, freeze_ob q1 q2, q2⟩
  · intro i j M blk2 ob hM h2' hg h3' h5'
    by_cases hi : i = id
    · subst hi
      have hb2 : hp.get i = some blk2 := h2'
      rw [h5] at hb2
      have hb3 := Option.some.inj hb2
      subst hb3
      exact freeze_iter (R.ito i j M _ ob hM hb hg h3' h5')
    · exact freeze_iter (R.ito i j M blk2 ob hM ((h6 i hi).symm.trans h2') hg h3' h5')
theorem bytes_of_rel {ρ : Emb} : ∀ (bs : List UInt8) (xs : List Value), LRel ρ (bs.map fun c => V.i .u8 (Int.ofNat c.toNat)) xs → xs = bs.map fun c => Value.int .u8 c.toNat
  | [], [], _ => rfl
  | [], _ :: _, h => h.elim
  | _ :: _, [], h => h.elim
  | c :: bs, y :: ys, h => by
    have h1 : y = .int .u8 (Int.ofNat c.toNat) := h.1
    rw [h1, bytes_of_rel bs ys h.2]; rfl
theorem ustr_ok (P : Program) (o : Oper) (t t' e : TypeId) (x y : Operand) (args : Array Operand) (tys : Array TypeId) (ha : args.toList = [x, y]) (ht : tys.toList = [t, t']) (hu : P.underlying t = some (.pointer e))
    (h : o.op = .call ⟨.builtin .unsafeString, args, tys⟩) : RunOk P o (runK (compUStr1 e (tyAt P e) (compO x) (compO y))) := by
  unfold compUStr1
  split
  · rename_i bytes z he
    obtain ⟨i, i1, i2, i3, i4, i5⟩ := tyAt_ok he
    have hs : still P o.op = false := by rw [h]; rfl
    have mx : x ∈ o.op.operands.toList := by rw [h]; simp [Op.operands, Call.operands, ← Array.mem_toList_iff, ha]
    have my : y ∈ o.op.operands.toList := by rw [h]; simp [Op.operands, Call.operands, ← Array.mem_toList_iff, ha]
    have run1 : ∀ (a : Act) (w w' : World) (v : Value), (Builtin.unsafeString_ #[t, t'] o.type #[a.eval x, a.eval y]).run P w = .ok v w' → (execOp a.eval o).run P w = .ok (.value v) w' := by
      intro a w w' v hr
      have : (execOp a.eval o).run P w = (builtin .unsafeString tys o.type (args.map fun | .const _ => true | _ => false) (args.map a.eval)).run P w := by
        unfold execOp; rw [h]; rfl
      rw [this]
      have ea : args.map a.eval = #[a.eval x, a.eval y] := by apply Array.ext'; simp [ha]
      have et : tys = #[t, t'] := by apply Array.ext'; simp [ht]
      rw [ea, et]
      simp only [builtin, Sem.run_bind, hr, Result.andThen_ok]
      rfl
    intro cf _ fr hp k hk
    simp only [runK_mk, doUStr, oE_eq] at hk
    obtain ⟨kd, n, hn, hk⟩ := vI_ok hk
    obtain ⟨hkd, hk⟩ := ifK_ok hk
    obtain ⟨n, rfl, hk⟩ := natK_ok hk
    have hkd' := kdEq_ok hkd
    subst hkd'
    rcases vPZ_ok hk with ⟨hv, hk⟩ | ⟨id, g, off, fin, hv, hk⟩
    · obtain ⟨hz, hk⟩ := ifK_ok hk
      have hz' : n = 0 := Nat.eq_of_beq_eq_true hz
      subst hz'
      refine ⟨.s 0 0, hp, fun k' => by simp only [runK_mk, doUStr, oE_eq, hn, vI_i, hkd, natK_ofNat, ifK_true, hv, vPZ_p0]; rfl, KeepF.refl hp, Nat.le_refl _, fun ρ a w w0 A R => ?_, fun hc => by rw [hs] at hc; cases hc⟩
      have hx := A x mx
      have hy := A y my
      rw [hv] at hx; rw [hn] at hy
      have hx' : a.eval x = .pointer none := hx
      have hy' : a.eval y = .int .i64 0 := hy
      refine ⟨_, w, run1 a w w (.string .empty) ?_, ρ, Ext.refl _ ρ, srel_mk (bs := .empty) rfl rfl, R⟩
      · rw [hx', hy']
        exact Lib.run_unsafeString_none w t t' o.type none
    · simp only [uStrK] at hk
      obtain ⟨ho, hk⟩ := ifK_ok hk
      obtain ⟨hn1, hk⟩ := ifK_ok hk
      obtain ⟨hn2, hk⟩ := ifK_ok hk
      obtain ⟨el1, hk, el2⟩ := elK_ok hk
      obtain ⟨vs, l1, l2, l3⟩ := loadN_ok hk
      rw [l1] at hk
      obtain ⟨bs, rfl, p1⟩ := packK_ok _ _ _ hk
      rw [p1] at hk
      obtain ⟨h', f1, f2, f3, f4⟩ := freezeK_ok hk
      have hbl : bs.length = n := by simpa using l2
      refine ⟨.s n (pk bs), h', fun k' => by simp only [runK_mk, doUStr, uStrK, oE_eq, hn, vI_i, hkd, natK_ofNat, ifK_true, hv, vPZ_p, ho, hn1, hn2, el1, l1, p1, f1]; simp, f2, by rw [f3]; exact Nat.le_refl _, fun ρ a w w0 A R => ?_, fun hc => by rw [hs] at hc; cases hc⟩
      have hx := A x mx
      have hy := A y my
      rw [hv] at hx; rw [hn] at hy
      obtain ⟨L, m1, m2, m3, m4⟩ := hx
      have ho' : off = 0 := Nat.eq_of_beq_eq_true ho
      subst ho'
      have hn1' : 1 ≤ n := Nat.le_of_ble_eq_true hn1
      have hn2' : n ≤ 1048576 := Nat.le_of_ble_eq_true hn2
      have hs0 : L.s = 0 := by omega
      obtain ⟨c, c1, c2, c3⟩ := el2 ρ w w0 L R m1
      obtain ⟨xs, x1, x2⟩ := loadN_cells (fun k' => l1 k') R m1 m3 m4
      have hxs := bytes_of_rel bs xs x1
      have hfe : n ≤ fin := by
        have := l1 fun _ => true
        obtain ⟨next, floor, heap⟩ := hp
        simp only [loadN, hK_mk] at this
        obtain ⟨⟨cur, min, size, cells, bel, fr'⟩, hb, this⟩ := optK_ok this
        simp only [blkK_mk] at this
        obtain ⟨_, this⟩ := ifK_ok this
        have := Nat.le_of_ble_eq_true (ifK_ok this).1
        simpa using this
      have hrun := Lib.run_unsafeString_row (P := P) w t t' o.type e hu (by simp [Program.cellsOf, i1, i2]) L.b c c1 bs (by intro hb; rw [hb] at hbl; simp at hbl; omega) (by rw [hbl]; omega) (by omega) (fun j z hz => by
        rw [add_none]
        have := x2 j (.int .u8 z.toNat) (by rw [hxs]; simp [hz])
        rwa [show 0 - L.s + j = 0 + j by omega] at this)
      rw [hbl] at hrun
      refine ⟨.value (.string ⟨bs.toArray⟩), w.freeze ⟨L.b, 0, none⟩ n, run1 a w _ _ ?_, ρ, Ext.refl _ ρ, srel_mk (by simpa using hbl) (by simp), f4 ρ w w0 g L R m1 hs0⟩
      rw [m2]
      have hy' : a.eval y = .int .i64 n := hy
      rw [hy', show 0 - L.s = 0 by omega]
      exact hrun
  · exact no_ok P o
/-- a packed string's bytes as cells -/
def unp : Nat → Nat → List V → List V
  | 0, _, acc => acc
  | l + 1, n, acc => unp l (n / 256) (.i .u8 (.ofNat (n % 256)) :: acc)
theorem unpK_eq : ∀ (l n : Nat) (acc : List V) (k : List V → Bool), unpK l n acc k = k (unp l n acc)
  | 0, _, _, _ => rfl
  | l + 1, n, acc, k => by
    have e : unpK (l + 1) n acc k = fN (Nat.mod n 256) fun c => fN (Nat.div n 256) fun n => unpK l n (.i .u8 (.ofNat c) :: acc) k := rfl
    rw [e, fN_eq, fN_eq, unpK_eq l]
    rfl
theorem unp_length : ∀ (l n : Nat) (acc : List V), (unp l n acc).length = l + acc.length
  | 0, _, _ => by simp [unp]
  | l + 1, n, acc => by rw [unp, unp_length l]; simp; omega
theorem unp_pk : ∀ (m : Nat) (l : List UInt8) (acc : List V), l.length = m → unp m (pk l) acc = l.map (fun b => V.i .u8 (.ofNat b.toNat)) ++ acc
  | 0, l, acc, h => by
    have : l = [] := List.eq_nil_of_length_eq_zero h
    subst this; rfl
  | m + 1, l, acc, h => by
    have hne : l ≠ [] := by intro h0; subst h0; simp at h
    obtain ⟨l', b, rfl⟩ : ∃ l' b, l = l' ++ [b] := ⟨l.dropLast, l.getLast hne, (List.dropLast_concat_getLast hne).symm⟩
    have hs := pk_split l' [b]
    have hb : pk [b] = b.toNat := by simp [pk]
    simp only [List.length_cons, List.length_nil, Nat.zero_add, Nat.pow_one, hb] at hs
    rw [unp, hs.1, hs.2, unp_pk m l' _ (by simpa using h)]
    simp
theorem bytes_rel (ρ : Emb) : ∀ (l : List UInt8), LRel ρ (l.map fun b => V.i .u8 (.ofNat b.toNat)) (l.map fun b => Value.int .u8 b.toNat)
  | [] => trivial
  | b :: l => ⟨rfl, bytes_rel ρ l⟩
/-- a new block's end is marked: the row of a conversion -/
theorem markK_ok {h : H} {id : B} {k : H → Bool} (hk : markK h id k = true) :
    ∃ h', (∀ k', markK h id k' = k' h') ∧ KeepF h h' ∧ h'.next = h.next ∧
      ∀ ρ w w2 w0 g L c el, HRel ρ h w w0 → ρ id g = some L → w.heap[L.b]? = some (.cells c el (0, 0)) → w2.heap[L.b]? = some (.cells c el (c.size, c.size + 1)) →
        (∀ b : Nat, b ≠ L.b → w2.heap[b]? = w.heap[b]?) → w2.heap.size = w.heap.size → w2.tape = w.tape → w2.os = w.os → w2.output = w.output → HRel ρ h' w2 w0 := by
  obtain ⟨next, floor, heap⟩ := h
  have e : ∀ k', markK ⟨next, floor, heap⟩ id k' = optK (heap.get id) fun blk => blkK blk fun cur min size cells el fr =>
    ifK (B.geB floor id) fun _ => ifK (Nat.beq fr 0) fun _ => T.setK id ⟨cur, min, size, cells, el, 1⟩ heap fun heap => k' ⟨next, floor, heap⟩ := fun _ => rfl
  rw [e] at hk
  obtain ⟨⟨cur, min, size, cells, bel, fr⟩, hb, hk⟩ := optK_ok hk
  simp only [blkK_mk] at hk
  obtain ⟨hfl, hk⟩ := ifK_ok hk
  obtain ⟨hfr, hk⟩ := ifK_ok hk
  obtain ⟨hp, h4, h5, h6⟩ := setK_ok id (⟨cur, min, size, cells, bel, 1⟩ : Blk) heap
  have hfr' : fr = 0 := Nat.eq_of_beq_eq_true hfr
  subst hfr'
  refine ⟨⟨next, floor, hp⟩, fun k' => by rw [e, hb, optK_some, blkK_mk, hfl]; simp only [ifK_true]; rw [hfr]; simp only [ifK_true]; rw [h4], ⟨rfl, fun hf i hi => h6 i (fun e => by rw [e] at hi; exact absurd (geB_ok hfl) (Nat.not_le.2 hi))⟩, rfl, fun ρ w w2 w0 g L cc cel R hL ho hn hoth hsz htp hos hout => ?_⟩
  constructor
  · intro i j M hM
    obtain ⟨blk2, d1, d2, d3, d4, d5, d6, d7⟩ := R.loc _ _ _ hM
    by_cases hi : i = id
    · subst hi
      have hbe2 : blk2 = ⟨cur, min, size, cells, bel, 0⟩ := by
        have : heap.get i = some blk2 := d1
        rw [hb] at this; exact (Option.some.inj this).symm
      subst hbe2
      refine ⟨⟨cur, min, size, cells, bel, 1⟩, h5, d2, by rw [hsz]; exact d3, d4, d5, d6, fun hm => ?_⟩
      obtain ⟨c, el, b1, b2, b3, b4⟩ := d7 hm
      refine ⟨c, el, ?_, b2, b3, b4⟩
      obtain ⟨b5, fz, b6, b7⟩ := b1
      by_cases hbb : M.b = L.b
      · rw [hbb, ho] at b6
        cases b6
        exact ⟨b5, _, by rw [hbb]; exact hn, .inr rfl⟩
      · exact ⟨b5, fz, by rw [hoth _ hbb]; exact b6, .inl b7⟩
    · refine ⟨blk2, (h6 i hi).trans d1, d2, by rw [hsz]; exact d3, d4, d5, d6, fun hm => ?_⟩
      obtain ⟨c, el, b1, b2, b3, b4⟩ := d7 hm
      exact ⟨c, el, b1.congr (hoth _ fun hbb => hi (R.sep _ _ _ _ _ _ hM hL hbb).1), b2, b3, b4⟩
  · exact R.ids
  · exact R.sep
  · exact R.flo
  · intro b hb'
    rw [hoth]
    · exact R.old b hb'
    · have := R.up _ _ _ hL (geB_ok hfl)
      show b ≠ L.b
      omega
  · exact R.up
  · rw [htp]; exact R.tp
  · rw [hos]; exact R.os
  · rw [hout]; exact R.out
  · rw [hsz]; exact R.siz
  · intro i M blk2 hM h2' kc h3'
    by_cases hi : i = id
    · subst hi
      have hb2 : hp.get i = some blk2 := h2'
      rw [h5] at hb2
      have hb3 := Option.some.inj hb2
      subst hb3
      obtain ⟨o, q1, q2⟩ := R.mp i M _ hM hb kc h3'
      by_cases hbb : M.b = L.b
      · rw [hbb, ho] at q1; rw [← Option.some.inj q1] at q2; exact q2.noCells.elim
      · exact ⟨o, (hoth _ hbb).trans q1, by cases kc <;> exact q2⟩
    · obtain ⟨o, q1, q2⟩ := R.mp i M blk2 hM ((h6 i hi).symm.trans h2') kc h3'
      exact ⟨o, (hoth _ fun hbb => hi (R.sep _ _ _ _ _ _ hM hL hbb).1).trans q1, q2⟩
  · intro i j M blk2 ob hM h2' hg h3' h5'
    by_cases hi : i = id
    · subst hi
      have hb2 : hp.get i = some blk2 := h2'
      rw [h5] at hb2
      have hb3 := Option.some.inj hb2
      subst hb3
      have q1 := R.ito i j M _ ob hM hb hg h3' h5'
      by_cases hbb : M.b = L.b
      · rw [hbb, ho] at q1
        cases ob with
        | inl d => cases q1
        | inr d => cases q1
        | obj o h => exact absurd (Option.some.inj q1).symm (h _ _ _)
      · exact (hoth _ hbb).trans q1
    · exact (hoth _ fun hbb => hi (R.sep _ _ _ _ _ _ hM hL hbb).1).trans (R.ito i j M blk2 ob hM ((h6 i hi).symm.trans h2') hg h3' h5')
theorem s2b_ok (P : Program) (o : Oper) (s d e : TypeId) (x : Operand) (hs : P.underlying s = some .string) (hd : P.underlying d = some (.slice e)) (h : o.op = .convert s d x) :
    RunOk P o (runK (compS2B e (tyAt P e) (compO x))) := by
  unfold compS2B
  split
  · rename_i b z he
    obtain ⟨j, j1, j2, j3, j4, j5⟩ := tyAt_ok he
    intro cf _ t hp k hk
    simp only [runK_mk, doS2B, oE_eq] at hk
    obtain ⟨l, n, hv, hk⟩ := vS_ok hk
    obtain ⟨hl, hk⟩ := ifK_ok hk
    rw [unpK_eq] at hk
    obtain ⟨h1, a1, a2, a3, a4⟩ := alloc_ok hk
    rw [a1] at hk
    obtain ⟨h2, m1, m2, m3, m4⟩ := markK_ok hk
    refine ⟨.l hp.next 0 0 l l (capF l), h2, fun k' => by simp only [runK_mk, doS2B, oE_eq, hv, vS_s, hl, ifK_true, unpK_eq, a1, m1], a2.trans a3 m2, by rw [m3]; exact a3, fun ρ a w w0 A R => ?_, fun hc => by rw [h] at hc; cases hc⟩
    have hx := (A x (by rw [h]; simp [Op.operands]))
    rw [hv] at hx
    obtain ⟨bs, hx', e1, e2, e3⟩ := srel hx
    have R1 : HRel ρ hp w.drew w0 := ⟨R.loc, R.ids, R.sep, R.flo, R.old, R.up, R.tp, R.os, R.out, R.siz, R.mp, R.ito⟩
    have hge := grownCap_ge w bs.size 0 e
    have hcs : (Lib.bytesCells w e bs).size = grownCap w bs.size 0 e := by
      have : bs.data.size = bs.size := rfl
      simp [Lib.bytesCells]; omega
    have hun : unp l n [] = bs.data.toList.map fun b => V.i .u8 (.ofNat b.toNat) := by rw [← e2, unp_pk l bs.data.toList [] e1, List.append_nil]
    have hlen : (unp l n []).length = l := by rw [unp_length]; simp
    obtain ⟨ρ', x1, x2, x3⟩ := a4 ρ w.drew w0 (Lib.bytesCells w e bs) 0 _ R1 (by rw [hlen, hcs]; omega) rfl (fun i v y hv hy => by
      rw [hun] at hv
      have hi : i < bs.data.toList.length := by have := (List.getElem?_eq_some_iff.1 hv).1; simpa using this
      have hi' : i < bs.data.size := by simpa using hi
      unfold Lib.bytesCells at hy
      rw [Array.getElem?_append_left (by simpa using hi')] at hy
      rw [List.getElem?_map, List.getElem?_eq_getElem hi] at hv
      rw [Array.getElem?_map, Array.getElem?_eq_getElem hi'] at hy
      cases hv; cases hy
      show Value.int .u8 _ = _
      simp) rfl
    rw [hlen] at x2
    have x2' : ρ' hp.next 0 = some ⟨w.heap.size, 0, l, (Lib.bytesCells w e bs).size, none⟩ := x2
    have hR := m4 ρ' _ (Lib.bytesWorld w e bs) w0 0 _ (Lib.bytesCells w e bs) e x3 x2' (alloc_get_new w.drew _) (Lib.bytesWorld_at_new w e bs)
      (fun b hb => by
        have hb' : b ≠ w.heap.size := hb
        by_cases hlt : b < w.heap.size
        · rw [Lib.bytesWorld_at_old w e bs b hlt, alloc_get_old w.drew _ hlt]; rfl
        · rw [Array.getElem?_eq_none (by rw [Lib.bytesWorld_size]; omega), Array.getElem?_eq_none (by rw [alloc_size]; show w.heap.size + 1 ≤ b; omega)])
      (by rw [Lib.bytesWorld_size, alloc_size]; rfl)
      ((freeze_os _ _ _).2.2) ((freeze_os _ _ _).1) ((freeze_os _ _ _).2.1)
    refine ⟨.value (.slice (some ⟨w.heap.size, 0, none⟩) l (grownCap w bs.size 0 e)), Lib.bytesWorld w e bs, ?_, ρ', x1, ⟨_, _, _, x2', rfl, by omega, Nat.zero_le _, Nat.le_refl _, .inr rfl, fun d hd hl => absurd hl (capF_big hd), fun _ => .inr ⟨1, Nat.le_refl _, by omega, by show 0 - 0 + grownCap w bs.size 0 e * 1 ≤ (Lib.bytesCells w e bs).size; omega, fun d hd => capF_eq hd⟩⟩, hR⟩
    unfold execOp
    rw [h]
    simp only [hx', Sem.run_bind, Lib.run_convert_string_bytes w s d e bs hs hd j5, Result.andThen_ok, e3]
    rfl
  · exact no_ok P o
end Go.Ev

set_option linter.all false
namespace Go.Ev
open Go
theorem run_places (P : Program) (w : World) : ∀ (fs : List Field), (∀ f ∈ fs, (tyAt P f.type).isSome = true) →
    (fs.mapM fun f => do pure (f.offset, ← sizeOf f.type) : Sem (List (Nat × Nat))).run P w = .ok (fs.map fun f => (f.offset, P.cellsOf f.type)) w
  | [], _ => rfl
  | f :: r, h => by
    obtain ⟨ty, hty⟩ := Option.isSome_iff_exists.1 (h f (by simp))
    obtain ⟨i, i1, i2, i3, i4, i5⟩ := tyAt_ok hty
    rw [List.mapM_cons]
    simp only [Sem.run_bind, run_sizeOf' i1, Result.andThen_ok, run_places P w r (fun g hg => h g (by simp [hg])), Sem.run_pure', List.map_cons]
    simp [Program.cellsOf, i1]
theorem build_ok (P : Program) (o : Oper) (el : TypeId) (parts : Array (Nat × Operand)) (h : o.op = .build el parts) : RunOk P o (runK (compBuild P (tyAt P el) parts.toList)) := by
  cases ht : tyAt P el with
  | none => exact no_ok P o
  | some ty =>
    obtain ⟨size, bytes, d, z⟩ := ty
    obtain ⟨i, i1, i2, i3, i4, i5⟩ := tyAt_ok ht
    simp only at i4
    cases d <;> try exact no_ok P o
    · rename_i len e
      cases he : tyAt P e with
      | none => simp only [compBuild, he]; exact no_ok P o
      | some ety =>
        obtain ⟨esz, eb, ed, ez⟩ := ety
        obtain ⟨j, j1, j2, j3, j4, j5⟩ := tyAt_ok he
        cases hc : Nat.ble 1 z.length with
        | false => simp only [compBuild, he, hc]; exact no_ok P o
        | true =>
          simp only [compBuild, he, hc, runK_mk]
          refine RunOk.calm fun cf t hp k hk => ?_
          obtain ⟨cs', h1, h2, h3⟩ := fill_ok (fun i => some (i * esz, esz)) _ _ (parts_arr esz parts.toList) t z _ hk
          refine ⟨.a cs', fun k' => by simp only [doBuild, h1], fun ρ a A w => ?_⟩
          obtain ⟨v, v1, v2⟩ := zero_rel (ρ := ρ) (z := i.zero) (by rw [i4]; exact Nat.le_of_ble_eq_true hc)
          rw [i4] at v2
          obtain ⟨cells', c1, c2⟩ := h3 ρ a (fun x hx => A x (by rw [h]; simpa [Op.operands] using hx)) v.cells v2
          refine ⟨.agg cells', ?_, _, rfl, c2⟩
          unfold execOp
          rw [h]
          simp only [run_v, Instr.build, Sem.run_bind, run_zero' i1 v1, Result.andThen_ok, run_underlying i5, run_sizeOf' j1, j2, Array.toList_map, c1, Sem.run_pure']
    · rename_i fs
      cases hcp : compParts P fs.toList parts.toList with
      | none => simp only [compBuild, hcp]; exact no_ok P o
      | some ps =>
        cases hc : (Nat.ble 1 z.length && fs.toList.all (fun f => (tyAt P f.type).isSome)) with
        | false => simp only [compBuild, hcp, hc]; exact no_ok P o
        | true =>
          simp only [compBuild, hcp, hc, runK_mk]
          simp only [Bool.and_eq_true, List.all_eq_true] at hc
          have hpl : ∀ (n : Nat) f, fs.toList[n]? = some f → ∀ ty, tyAt P f.type = some ty → (fs.toList.map fun f => (f.offset, P.cellsOf f.type)).toArray[n]? = some (f.offset, ty.size) := by
            intro n f hf ty hty
            obtain ⟨j, j1, j2, j3, j4, j5⟩ := tyAt_ok hty
            have hf' : fs[n]? = some f := by simpa using hf
            simp [hf', Program.cellsOf, j1, j2]
          refine RunOk.calm fun cf t hp k hk => ?_
          obtain ⟨cs', h1, h2, h3⟩ := fill_ok _ _ _ (parts_struct P fs.toList _ hpl parts.toList ps hcp) t z _ hk
          refine ⟨.a cs', fun k' => by simp only [doBuild, h1], fun ρ a A w => ?_⟩
          obtain ⟨v, v1, v2⟩ := zero_rel (ρ := ρ) (z := i.zero) (by rw [i4]; exact Nat.le_of_ble_eq_true hc.1)
          rw [i4] at v2
          obtain ⟨cells', c1, c2⟩ := h3 ρ a (fun x hx => A x (by rw [h]; simpa [Op.operands] using hx)) v.cells v2
          refine ⟨.agg cells', ?_, _, rfl, c2⟩
          unfold execOp
          rw [h]
          have hpr : (fs.mapM fun f => do pure (f.offset, ← sizeOf f.type) : Sem (Array (Nat × Nat))).run P w = .ok (fs.toList.map fun f => (f.offset, P.cellsOf f.type)).toArray w := by
            rw [Array.mapM_eq_mapM_toList, Sem.run_map, run_places P w fs.toList (fun f hf => hc.2 f hf)]
            rfl
          simp only [run_v, Instr.build, Sem.run_bind, run_zero' i1 v1, Result.andThen_ok, run_underlying i5, hpr, Array.toList_map, c1, Sem.run_pure']
theorem repL_len (z : List V) : ∀ n, (repL z n).length = n * z.length
  | 0 => by rw [Nat.zero_mul]; rfl
  | n + 1 => by
    have e : repL z (n + 1) = app z (repL z n) := rfl
    rw [e, app_eq]; simp [repL_len z n, Nat.succ_mul, Nat.add_comm]
theorem repL_get (z : List V) (hz : 1 ≤ z.length) : ∀ n i, i < n * z.length → (repL z n)[i]? = z[i % z.length]?
  | 0, i, h => by simp at h
  | n + 1, i, h => by
    have e : repL z (n + 1) = app z (repL z n) := rfl
    rw [e, app_eq]
    by_cases hi : i < z.length
    · rw [List.getElem?_append_left hi, Nat.mod_eq_of_lt hi]
    · rw [List.getElem?_append_right (by omega), repL_get z hz n (i - z.length) (by rw [Nat.succ_mul] at h; omega)]
      congr 1
      conv => rhs; rw [show i = i - z.length + z.length by omega, Nat.add_mod_right]
theorem rep_rel {ρ : Emb} {z : List V} {zc : Array Value} (h : LRel ρ z zc.toList) (hz : 1 ≤ z.length) (n : Nat) :
    LRel ρ (repL z n) ((Array.range (n * z.length)).map (zc[· % zc.size]!)).toList := by
  have hl := h.length
  simp at hl
  refine LRel.of_get (by simp [repL_len]) fun i v x hv hx => ?_
  have hi : i < n * z.length := by
    have := (List.getElem?_eq_some_iff.1 hv).1
    rwa [repL_len] at this
  rw [repL_get z hz n i hi] at hv
  obtain ⟨y, y1, y2⟩ := h.get hv
  have hm : i % zc.size < zc.size := Nat.mod_lt _ (by omega)
  have : x = y := by
    simp [hi, hm] at hx
    rw [← hx]
    rw [hl] at y1
    simpa [hm] using y1
  rw [this]; exact y2
theorem buildSlice_ok (P : Program) (o : Oper) (el : TypeId) (len : Nat) (parts : Array (Nat × Operand)) (h : o.op = .buildSlice el len parts) : RunOk P o (runK (compBuildSlice P (tyAt P el) len parts.toList)) := by
  cases ht : tyAt P el with
  | none => exact no_ok P o
  | some ty =>
    obtain ⟨size, bytes, d, z⟩ := ty
    obtain ⟨i, i1, i2, i3, i4, i5⟩ := tyAt_ok ht
    cases d <;> try exact no_ok P o
    rename_i e
    cases he : tyAt P e with
    | none => simp only [compBuildSlice, he]; exact no_ok P o
    | some ety =>
      obtain ⟨esz, eb, ed, ez⟩ := ety
      obtain ⟨j, j1, j2, j3, j4, j5⟩ := tyAt_ok he
      simp only at j2 j4
      cases hc : (Nat.beq ez.length esz && (Nat.ble 1 esz && Nat.ble (Nat.mul len esz) 1048576)) with
      | false => simp only [compBuildSlice, he, hc]; exact no_ok P o
      | true =>
        simp only [compBuildSlice, he, hc, runK_mk]
        simp only [Bool.and_eq_true] at hc
        have hz1 : ez.length = esz := Nat.eq_of_beq_eq_true hc.1
        have hz2 : 1 ≤ esz := Nat.le_of_ble_eq_true hc.2.1
        have hz3 : len * esz ≤ 1048576 := Nat.le_of_ble_eq_true hc.2.2
        intro cf _ t hp k hk
        obtain ⟨cs', h1, h2, h3⟩ := fill_ok (fun i => some (i * esz, esz)) _ _ (parts_arr esz parts.toList) t (repL ez len) _ hk
        rw [doBuildSlice, h1] at hk
        obtain ⟨h', g1, g2, g3, g4⟩ := alloc_ok hk
        have hcl : cs'.length = len * esz := by rw [h2, repL_len, hz1]
        refine ⟨.l hp.next 0 0 len cs'.length (some len), h', fun k' => by rw [doBuildSlice, h1, g1], g2, g3, fun ρ a w w0 A R => ?_, fun hs => by rw [h] at hs; exact Bool.noConfusion hs⟩
        obtain ⟨v, v1, v2⟩ := zero_rel (ρ := ρ) (z := j.zero) (by rw [j4]; omega)
        rw [j4] at v2
        have hzr : LRel ρ (repL ez len) ((Array.range (len * esz)).map ((if len * esz = 0 then #[] else v.cells)[· % (if len * esz = 0 then #[] else v.cells).size]!)).toList := by
          by_cases h0 : len * esz = 0
          · have : len = 0 := by
              rcases Nat.mul_eq_zero.1 h0 with h0 | h0
              · exact h0
              · omega
            subst this
            simp [repL, h0]
            trivial
          · simp only [h0, if_false]
            have := rep_rel v2 (by omega) len
            rwa [hz1] at this
        obtain ⟨cells', c1, c2⟩ := h3 ρ a (fun x hx => A x (by rw [h]; simpa [Op.operands] using hx)) _ hzr
        have c3 := c2.length
        simp at c3
        obtain ⟨ρ', e1, e2, e3⟩ := g4 ρ w w0 cells' 0 _ R (by omega) rfl
          (fun i v y hv hy => by obtain ⟨z, d1, d2⟩ := c2.get hv; have : some z = some y := by rw [← d1, ← hy, Array.getElem?_toList]
                                 cases this; exact d2) rfl
        refine ⟨.value (.slice (some ⟨w.heap.size, 0, none⟩) len len), w.alloc (.cells cells' e), ?_, ρ', e1, ⟨_, _, _, e2, rfl, Nat.le_refl _, Nat.zero_le _, Nat.le_refl _, .inr rfl, (fun d hd _ => by cases hd; rfl), (fun hd => absurd hd (Unk.no (by have := Nat.mul_le_mul_left len hz2; omega)))⟩, e3⟩
        unfold execOp
        rw [h]
        simp only [run_v, Instr.buildSlice, Sem.run_bind, Result.andThen_ok, run_underlying i5, run_sizeOf' j1, j2]
        rw [if_neg (by omega)]
        by_cases h0 : len * esz = 0
        · simp only [h0, if_true] at c1 ⊢
          simp only [Sem.run_bind, Sem.run_pure', Result.andThen_ok, Array.toList_map, c1]
          rfl
        · simp only [h0, if_false] at c1 ⊢
          simp only [Sem.run_bind, Sem.run_pure', run_zero' j1 v1, Result.andThen_ok, Array.toList_map, c1]
          rfl
theorem makeSlice_ok (P : Program) (o : Oper) (el : TypeId) (x y : Operand) (h : o.op = .makeSlice el x y) : RunOk P o (runK (compMakeSlice P (tyAt P el) (compO x) (compO y))) := by
  cases ht : tyAt P el with
  | none => exact no_ok P o
  | some ty =>
    obtain ⟨size, bytes, d, z⟩ := ty
    obtain ⟨i, i1, i2, i3, i4, i5⟩ := tyAt_ok ht
    cases d <;> try exact no_ok P o
    rename_i e
    cases he : tyAt P e with
    | none => simp only [compMakeSlice, he]; exact no_ok P o
    | some ety =>
      obtain ⟨esz, eb, ed, ez⟩ := ety
      obtain ⟨j, j1, j2, j3, j4, j5⟩ := tyAt_ok he
      simp only at j2 j3 j4
      cases hc : (Nat.beq ez.length esz && (Nat.ble 1 esz && Nat.ble eb 65536)) with
      | false => simp only [compMakeSlice, he, hc]; exact no_ok P o
      | true =>
        simp only [compMakeSlice, he, hc, runK_mk]
        simp only [Bool.and_eq_true] at hc
        have hz1 : ez.length = esz := Nat.eq_of_beq_eq_true hc.1
        have hz2 : 1 ≤ esz := Nat.le_of_ble_eq_true hc.2.1
        have hz3 : eb ≤ 65536 := Nat.le_of_ble_eq_true hc.2.2
        intro cf _ t hp k hk
        simp only [doMakeSlice, oK_eq, oE_eq] at hk
        obtain ⟨kd, l, hl, hk⟩ := vI_ok hk
        obtain ⟨l, rfl, hk⟩ := natK_ok hk
        obtain ⟨kd', c, hcv, hk⟩ := vI_ok hk
        obtain ⟨c, rfl, hk⟩ := natK_ok hk
        obtain ⟨hlc, hk⟩ := ifK_ok hk
        obtain ⟨hc20, hk⟩ := ifK_ok hk
        obtain ⟨h', g1, g2, g3, g4⟩ := alloc_ok hk
        have hlc' : l ≤ c := Nat.le_of_ble_eq_true hlc
        have hc20' : c ≤ 1048576 := Nat.le_of_ble_eq_true hc20
        refine ⟨.l hp.next 0 0 l (c * ez.length) (some c), h', fun k' => by simp only [doMakeSlice, oK_eq, oE_eq, hl, vI_i, natK_ofNat, hcv, hlc, hc20, ifK_true, g1]; rfl, g2, g3, fun ρ a w w0 A R => ?_, fun hs => by rw [h] at hs; exact Bool.noConfusion hs⟩
        obtain ⟨v, v1, v2⟩ := zero_rel (ρ := ρ) (z := j.zero) (by rw [j4]; omega)
        rw [j4] at v2
        have hzr : LRel ρ (repL ez c) ((Array.range (c * esz)).map ((if c * esz = 0 then #[] else v.cells)[· % (if c * esz = 0 then #[] else v.cells).size]!)).toList := by
          by_cases h0 : c * esz = 0
          · have : c = 0 := by
              rcases Nat.mul_eq_zero.1 h0 with h0 | h0
              · exact h0
              · omega
            subst this
            simp [repL, h0]
            trivial
          · simp only [h0, if_false]
            have := rep_rel v2 (by omega) c
            rwa [hz1] at this
        have c3 := hzr.length
        rw [repL_len] at c3
        obtain ⟨ρ', e1, e2, e3⟩ := g4 ρ w w0 ((Array.range (c * esz)).map ((if c * esz = 0 then #[] else v.cells)[· % (if c * esz = 0 then #[] else v.cells).size]!)) 0 _ R (by rw [repL_len]; simp at c3 ⊢; omega) rfl
          (fun i v y hv hy => by obtain ⟨z, d1, d2⟩ := hzr.get hv; have : some z = some y := by rw [← d1, ← hy, Array.getElem?_toList]
                                 cases this; exact d2) rfl
        have hx := (A x (by rw [h]; simp [Op.operands]))
        rw [hl] at hx
        have hx' : a.eval x = .int kd (Int.ofNat l) := hx
        have hy := (A y (by rw [h]; simp [Op.operands]))
        rw [hcv] at hy
        have hy' : a.eval y = .int kd' (Int.ofNat c) := hy
        refine ⟨.value (.slice (some ⟨w.heap.size, 0, none⟩) l c), w.alloc (.cells ((Array.range (c * esz)).map ((if c * esz = 0 then #[] else v.cells)[· % (if c * esz = 0 then #[] else v.cells).size]!)) e), ?_, ρ', e1,
          ⟨_, _, _, e2, rfl, hlc', Nat.zero_le _, by rw [repL_len]; exact Nat.le_refl _, .inr rfl, fun d hd _ => by cases hd; rfl, fun hd => absurd hd (Unk.no (by omega))⟩, e3⟩
        unfold execOp
        rw [h]
        have wl : IntKind.i64.wrap (Int.ofNat l) = Int.ofNat l := wrap_small .i64 l (by simp only [mxOf]; omega)
        have wc : IntKind.i64.wrap (Int.ofNat c) = Int.ofNat c := wrap_small .i64 c (by simp only [mxOf]; omega)
        have hb0 : eb * c ≤ 68719476736 := by have := Nat.mul_le_mul hz3 hc20'; omega
        have hb : (eb : Int) * (c : Int) ≤ 68719476736 := by rw [← Int.natCast_mul]; omega
        have hb' : c * eb ≤ 68719476736 := by rw [Nat.mul_comm]; exact hb0
        have hroom : (askRoom (c * eb)).run P w = .ok () w := by
          unfold askRoom
          rw [if_neg (by unfold roomBytes; omega)]
          rfl
        simp only [run_v, Instr.makeSlice, hx', hy', asInt, asIntOf, Sem.run_bind, Result.andThen_ok, run_underlying i5, Sem.run_pure', run_typeInfo' j1, wl, wc, j3]
        rw [if_neg (by simp; omega)]
        simp only [Sem.run_bind, Int.ofNat_eq_natCast, Int.toNat_natCast, hroom, Result.andThen_ok, run_sizeOf' j1, j2]
        by_cases h0 : c * esz = 0
        · simp only [h0, if_true]
          simp only [Sem.run_bind, Sem.run_pure', Result.andThen_ok]
          rfl
        · simp only [h0, if_false]
          simp only [Sem.run_bind, Sem.run_pure', run_zero' j1 v1, Result.andThen_ok]
          rfl
theorem run_eqGuard_int (P : Program) (w : World) (op : BinOp) (t : TypeId) (x y : Operand) (k k' : IntKind) (m n : Int) : (eqGuard op t x y (.int k m) (.int k' n)).run P w = .ok () w := by
  unfold eqGuard
  cases op <;> rfl
theorem run_eqGuard_bool (P : Program) (w : World) (op : BinOp) (t : TypeId) (x y : Operand) (m n : Bool) : (eqGuard op t x y (.bool m) (.bool n)).run P w = .ok () w := by
  unfold eqGuard
  cases op <;> rfl
/-- what an operator makes of two numbers of a kind -/
def BinFOk (op : BinOp) (f : BinF) : Prop := ∀ kd a b k, f kd a b k = true → ∃ v, (∀ k', f kd a b k' = k' v) ∧ ∀ (P : Program) (w : World), ∃ x, (binOp op 0 (.int kd a) (.int kd b)).run P w = .ok x w ∧ (∀ t, binOp op t (.int kd a) (.int kd b) = binOp op 0 (.int kd a) (.int kd b)) ∧ ∀ ρ, VRel ρ v x
theorem mx_lt (kd : IntKind) : mxOf kd < 2 ^ kd.bits := by cases kd <;> simp [mxOf, IntKind.bits]
theorem mx_pow (kd : IntKind) : ∃ n, mxOf kd + 1 = 2 ^ n := by
  cases kd
  · exact ⟨7, rfl⟩
  · exact ⟨15, rfl⟩
  · exact ⟨31, rfl⟩
  · exact ⟨63, rfl⟩
  · exact ⟨8, rfl⟩
  · exact ⟨16, rfl⟩
  · exact ⟨32, rfl⟩
  · exact ⟨64, rfl⟩
theorem bits_ofNat {kd : IntKind} {a : Nat} (h : a ≤ mxOf kd) : (BitVec.ofInt kd.bits (Int.ofNat a)).toNat = a := by
  have := mx_lt kd
  rw [show (Int.ofNat a) = ((a : Nat) : Int) from rfl, BitVec.ofInt_natCast, BitVec.toNat_ofNat, Nat.mod_eq_of_lt (by omega)]
theorem bit_le {kd : IntKind} {a b : Nat} (ha : a ≤ mxOf kd) (hb : b ≤ mxOf kd) : a &&& b ≤ mxOf kd ∧ a ||| b ≤ mxOf kd ∧ a ^^^ b ≤ mxOf kd := by
  obtain ⟨n, hn⟩ := mx_pow kd
  have h1 : a < 2 ^ n := by omega
  have h2 : b < 2 ^ n := by omega
  have := Nat.and_lt_two_pow a h2
  have := Nat.or_lt_two_pow h1 h2
  have := Nat.xor_lt_two_pow h1 h2
  omega
theorem and_ok {kd : IntKind} {a b : Nat} (ha : a ≤ mxOf kd) (hb : b ≤ mxOf kd) (P : Program) (w : World) (t : TypeId) : (binOp .and t (.int kd (Int.ofNat a)) (.int kd (Int.ofNat b))).run P w = .ok (.int kd (Int.ofNat (a &&& b))) w := by
  simp only [binOp, Op.intBits, BitVec.toNat_and, bits_ofNat ha, bits_ofNat hb]
  have := wrap_small kd (a &&& b) (bit_le ha hb).1
  simp at this ⊢
  rw [this]
theorem or_ok {kd : IntKind} {a b : Nat} (ha : a ≤ mxOf kd) (hb : b ≤ mxOf kd) (P : Program) (w : World) (t : TypeId) : (binOp .or t (.int kd (Int.ofNat a)) (.int kd (Int.ofNat b))).run P w = .ok (.int kd (Int.ofNat (a ||| b))) w := by
  simp only [binOp, Op.intBits, BitVec.toNat_or, bits_ofNat ha, bits_ofNat hb]
  have := wrap_small kd (a ||| b) (bit_le ha hb).2.1
  simp at this ⊢
  rw [this]
theorem xor_ok {kd : IntKind} {a b : Nat} (ha : a ≤ mxOf kd) (hb : b ≤ mxOf kd) (P : Program) (w : World) (t : TypeId) : (binOp .xor t (.int kd (Int.ofNat a)) (.int kd (Int.ofNat b))).run P w = .ok (.int kd (Int.ofNat (a ^^^ b))) w := by
  simp only [binOp, Op.intBits, BitVec.toNat_xor, bits_ofNat ha, bits_ofNat hb]
  have := wrap_small kd (a ^^^ b) (bit_le ha hb).2.2
  simp at this ⊢
  rw [this]
theorem xor_and (n : Nat) {x y : BitVec n} : (x &&& ~~~y) = x ^^^ (x &&& y) := by
  apply BitVec.eq_of_getElem_eq
  intro i hi
  simp only [BitVec.getElem_and, BitVec.getElem_not, BitVec.getElem_xor]
  cases x[i] <;> cases y[i] <;> rfl
theorem ant_ok {kd : IntKind} {a b : Nat} (ha : a ≤ mxOf kd) (hb : b ≤ mxOf kd) (P : Program) (w : World) (t : TypeId) : (binOp .andNot t (.int kd (Int.ofNat a)) (.int kd (Int.ofNat b))).run P w = .ok (.int kd (Int.ofNat (a ^^^ (a &&& b)))) w := by
  simp only [binOp, Op.intBits, xor_and, BitVec.toNat_xor, BitVec.toNat_and, bits_ofNat ha, bits_ofNat hb]
  have := wrap_small kd (a ^^^ (a &&& b)) (bit_le ha (bit_le ha hb).1).2.2
  simp at this ⊢
  rw [this]
theorem fOf_ok (op : BinOp) : BinFOk op (fOf op) := by
  intro kd a b k hk
  cases op <;> try exact Bool.noConfusion hk
  case add => exact ⟨.i kd (kd.wrap (a + b)), fun k' => by show wrapF _ _ _ _ = _; rw [wrapF_eq]; rfl, fun P w => ⟨.int kd (kd.wrap (a + b)), by simp [binOp, Op.intArith], fun t => rfl, fun ρ => rfl⟩⟩
  case sub => exact ⟨.i kd (kd.wrap (a - b)), fun k' => by show wrapF _ _ _ _ = _; rw [wrapF_eq]; rfl, fun P w => ⟨.int kd (kd.wrap (a - b)), by simp [binOp, Op.intArith], fun t => rfl, fun ρ => rfl⟩⟩
  case mul => exact ⟨.i kd (kd.wrap (a * b)), fun k' => by show wrapF _ _ _ _ = _; rw [wrapF_eq]; rfl, fun P w => ⟨.int kd (kd.wrap (a * b)), by simp [binOp, Op.intArith], fun t => rfl, fun ρ => rfl⟩⟩
  case quo =>
    have e : ∀ k', fOf .quo kd a b k' = ifK (!eqI b 0) fun _ => wrapF (Int.tdiv a b) kd (mxOf kd) k' := fun _ => rfl
    rw [e] at hk
    obtain ⟨hb, hk⟩ := ifK_ok hk
    have hb0 : ¬ b = 0 := by rw [eqI_eq] at hb; simpa using hb
    exact ⟨.i kd (kd.wrap (a.tdiv b)), fun k' => by rw [e, hb, ifK_true, wrapF_eq], fun P w => ⟨.int kd (kd.wrap (a.tdiv b)), by simp [binOp, Op.intDiv, hb0], fun t => rfl, fun ρ => rfl⟩⟩
  case rem =>
    have e : ∀ k', fOf .rem kd a b k' = ifK (!eqI b 0) fun _ => forceI (Int.tmod a b) fun n => k' (.i kd n) := fun _ => rfl
    rw [e] at hk
    obtain ⟨hb, hk⟩ := ifK_ok hk
    have hb0 : ¬ b = 0 := by rw [eqI_eq] at hb; simpa using hb
    exact ⟨.i kd (a.tmod b), fun k' => by rw [e, hb, ifK_true, forceI_eq], fun P w => ⟨.int kd (a.tmod b), by simp [binOp, Op.intDiv, hb0], fun t => rfl, fun ρ => rfl⟩⟩
  case and =>
    have e : ∀ k', fOf .and kd a b k' = natK a fun a => natK b fun b => ifK (Nat.ble a (mxOf kd)) fun _ => ifK (Nat.ble b (mxOf kd)) fun _ => fN (Nat.land a b) fun n => k' (.i kd (.ofNat n)) := fun _ => rfl
    rw [e] at hk
    obtain ⟨m, rfl, hk2⟩ := natK_ok hk
    obtain ⟨n, rfl, hk3⟩ := natK_ok hk2
    obtain ⟨h1, hk4⟩ := ifK_ok hk3
    obtain ⟨h2, hk5⟩ := ifK_ok hk4
    have l1 : m ≤ mxOf kd := Nat.le_of_ble_eq_true h1
    have l2 : n ≤ mxOf kd := Nat.le_of_ble_eq_true h2
    exact ⟨.i kd (Int.ofNat (m &&& n)), fun k' => by rw [e]; simp only [natK_ofNat, h1, h2, ifK_true, fN_eq]; rfl, fun P w => ⟨.int kd (Int.ofNat (m &&& n)), and_ok l1 l2 P w 0, fun t => rfl, fun ρ => rfl⟩⟩
  case or =>
    have e : ∀ k', fOf .or kd a b k' = natK a fun a => natK b fun b => ifK (Nat.ble a (mxOf kd)) fun _ => ifK (Nat.ble b (mxOf kd)) fun _ => fN (Nat.lor a b) fun n => k' (.i kd (.ofNat n)) := fun _ => rfl
    rw [e] at hk
    obtain ⟨m, rfl, hk2⟩ := natK_ok hk
    obtain ⟨n, rfl, hk3⟩ := natK_ok hk2
    obtain ⟨h1, hk4⟩ := ifK_ok hk3
    obtain ⟨h2, hk5⟩ := ifK_ok hk4
    have l1 : m ≤ mxOf kd := Nat.le_of_ble_eq_true h1
    have l2 : n ≤ mxOf kd := Nat.le_of_ble_eq_true h2
    exact ⟨.i kd (Int.ofNat (m ||| n)), fun k' => by rw [e]; simp only [natK_ofNat, h1, h2, ifK_true, fN_eq]; rfl, fun P w => ⟨.int kd (Int.ofNat (m ||| n)), or_ok l1 l2 P w 0, fun t => rfl, fun ρ => rfl⟩⟩
  case xor =>
    have e : ∀ k', fOf .xor kd a b k' = natK a fun a => natK b fun b => ifK (Nat.ble a (mxOf kd)) fun _ => ifK (Nat.ble b (mxOf kd)) fun _ => fN (Nat.xor a b) fun n => k' (.i kd (.ofNat n)) := fun _ => rfl
    rw [e] at hk
    obtain ⟨m, rfl, hk2⟩ := natK_ok hk
    obtain ⟨n, rfl, hk3⟩ := natK_ok hk2
    obtain ⟨h1, hk4⟩ := ifK_ok hk3
    obtain ⟨h2, hk5⟩ := ifK_ok hk4
    have l1 : m ≤ mxOf kd := Nat.le_of_ble_eq_true h1
    have l2 : n ≤ mxOf kd := Nat.le_of_ble_eq_true h2
    exact ⟨.i kd (Int.ofNat (m ^^^ n)), fun k' => by rw [e]; simp only [natK_ofNat, h1, h2, ifK_true, fN_eq]; rfl, fun P w => ⟨.int kd (Int.ofNat (m ^^^ n)), xor_ok l1 l2 P w 0, fun t => rfl, fun ρ => rfl⟩⟩
  case andNot =>
    have e : ∀ k', fOf .andNot kd a b k' = natK a fun a => natK b fun b => ifK (Nat.ble a (mxOf kd)) fun _ => ifK (Nat.ble b (mxOf kd)) fun _ => fN (Nat.xor a (Nat.land a b)) fun n => k' (.i kd (.ofNat n)) := fun _ => rfl
    rw [e] at hk
    obtain ⟨m, rfl, hk2⟩ := natK_ok hk
    obtain ⟨n, rfl, hk3⟩ := natK_ok hk2
    obtain ⟨h1, hk4⟩ := ifK_ok hk3
    obtain ⟨h2, hk5⟩ := ifK_ok hk4
    have l1 : m ≤ mxOf kd := Nat.le_of_ble_eq_true h1
    have l2 : n ≤ mxOf kd := Nat.le_of_ble_eq_true h2
    exact ⟨.i kd (Int.ofNat (m ^^^ (m &&& n))), fun k' => by rw [e]; simp only [natK_ofNat, h1, h2, ifK_true, fN_eq]; rfl, fun P w => ⟨.int kd (Int.ofNat (m ^^^ (m &&& n))), ant_ok l1 l2 P w 0, fun t => rfl, fun ρ => rfl⟩⟩
  case lss => exact ⟨.b (ltI a b), fun k' => fB_eq _ _, fun P w => ⟨.bool (ltI a b), by simp [binOp, Op.intCmp, ltI_eq], fun t => rfl, fun ρ => rfl⟩⟩
  case gtr => exact ⟨.b (ltI b a), fun k' => fB_eq _ _, fun P w => ⟨.bool (ltI b a), by simp [binOp, Op.intCmp, ltI_eq], fun t => rfl, fun ρ => rfl⟩⟩
  case leq => exact ⟨.b (!ltI b a), fun k' => fB_eq _ _, fun P w => ⟨.bool (!ltI b a), by simp [binOp, Op.intCmp, ltI_eq]; rw [← decide_not]; simp, fun t => rfl, fun ρ => rfl⟩⟩
  case geq => exact ⟨.b (!ltI a b), fun k' => fB_eq _ _, fun P w => ⟨.bool (!ltI a b), by simp [binOp, Op.intCmp, ltI_eq]; rw [← decide_not]; simp, fun t => rfl, fun ρ => rfl⟩⟩
  case eql => exact ⟨.b (eqI a b), fun k' => fB_eq _ _, fun P w => ⟨.bool (eqI a b), by simp [binOp, Op.intCmp, eqI_eq], fun t => rfl, fun ρ => rfl⟩⟩
  case neq => exact ⟨.b (!eqI a b), fun k' => fB_eq _ _, fun P w => ⟨.bool (!eqI a b), by simp [binOp, Op.intCmp, eqI_eq]; rfl, fun t => rfl, fun ρ => rfl⟩⟩
theorem bin2_ok (P : Program) (o : Oper) (op : BinOp) (tx ty : TypeId) (x y : Operand) (h : o.op = .binOp op tx x y ty) : RunOk P o (bin2 (fOf op) (compO x) (compO y)) := by
  refine RunOk.calm fun cf t hp k hk => ?_
  simp only [bin2, oK_eq, oE_eq] at hk
  obtain ⟨kd, m, hm, hk⟩ := vI_ok hk
  obtain ⟨kd', n, hn, hk⟩ := vI_ok hk
  obtain ⟨he, hk2⟩ := ifK_ok hk
  have hkd := kdEq_ok he
  subst hkd
  obtain ⟨v, v1, v2⟩ := fOf_ok op kd m n _ hk2
  refine ⟨v, fun k' => by simp only [bin2, oK_eq, oE_eq, hm, vI_i, hn, he, ifK_true, v1], fun ρ a A w => ?_⟩
  have hx := (A x (by rw [h]; simp [Op.operands]))
  rw [hm] at hx
  have hx' : a.eval x = .int kd m := hx
  have hy := (A y (by rw [h]; simp [Op.operands]))
  rw [hn] at hy
  have hy' : a.eval y = .int kd n := hy
  obtain ⟨z, z1, z2, z3⟩ := v2 P w
  refine ⟨z, ?_, z3 ρ⟩
  unfold execOp
  rw [h]
  simp only [Sem.run_bind, hx', hy', run_eqGuard_int, Result.andThen_ok, z2, z1]
  rfl
theorem bool_ok (P : Program) (o : Oper) (ne : Bool) (tx ty : TypeId) (x y : Operand) (hu : P.underlying tx = some .bool) (h : o.op = .binOp (if ne then .neq else .eql) tx x y ty) : RunOk P o (doBool ne (compO x) (compO y)) := by
  refine RunOk.calm fun cf t hp k hk => ?_
  simp only [doBool, oK_eq, oE_eq] at hk
  obtain ⟨m, hm, hk⟩ := vB_ok hk
  obtain ⟨n, hn, hk⟩ := vB_ok hk
  refine ⟨.b (xor ne (xor (xor m n) true)), fun k' => by simp only [doBool, oK_eq, oE_eq, hm, vB_b, hn, fB_eq], fun ρ a A w => ?_⟩
  have hx := (A x (by rw [h]; simp [Op.operands]))
  rw [hm] at hx
  have hx' : a.eval x = .bool m := hx
  have hy := (A y (by rw [h]; simp [Op.operands]))
  rw [hn] at hy
  have hy' : a.eval y = .bool n := hy
  refine ⟨.bool (xor ne (xor (xor m n) true)), ?_, rfl⟩
  unfold execOp
  rw [h]
  have heq : (Op.equal tx (.bool m) (.bool n)).run P w = .ok (m == n) w := by
    unfold Op.equal Op.maxDepth Op.equalIn
    simp only [Sem.run_bind, run_underlying hu, Result.andThen_ok]
    rfl
  cases ne
  · simp only [Bool.false_eq_true, if_false, Sem.run_bind, hx', hy', run_eqGuard_bool, Result.andThen_ok, binOp, heq]
    cases m <;> cases n <;> rfl
  · simp only [if_true, Sem.run_bind, hx', hy', run_eqGuard_bool, Result.andThen_ok, binOp, heq]
    cases m <;> cases n <;> rfl
theorem rem_ok (P : Program) (o : Oper) (tx ty : TypeId) (x y : Operand) (h : o.op = .binOp .rem tx x y ty) : RunOk P o (doRem (compO x) (compO y)) := by
  refine RunOk.calm fun cf t hp k hk => ?_
  simp only [doRem, oK_eq, oE_eq] at hk
  obtain ⟨kd', b, hb, hk⟩ := vI_ok hk
  rcases vIR_ok hk with ⟨kd, m, hm, hk⟩ | ⟨kd, m, r, hi, hm, hk⟩
  · obtain ⟨he, hk2⟩ := ifK_ok hk
    have hkd := kdEq_ok he
    subst hkd
    have hk3 : fOf .rem kd m b (fun v => k v hp) = true := hk2
    obtain ⟨v, v1, v2⟩ := fOf_ok .rem kd m b _ hk3
    refine ⟨v, fun k' => ?_, fun ρ a A w => ?_⟩
    · have := v1 (fun v => k' v hp)
      simp only [doRem, oK_eq, oE_eq, hm, hb, vI_i, vIR_i, he, ifK_true]
      exact this
    have hx := (A x (by rw [h]; simp [Op.operands]))
    rw [hm] at hx
    have hx' : a.eval x = .int kd m := hx
    have hy := (A y (by rw [h]; simp [Op.operands]))
    rw [hb] at hy
    have hy' : a.eval y = .int kd b := hy
    obtain ⟨z, z1, z2, z3⟩ := v2 P w
    refine ⟨z, ?_, z3 ρ⟩
    unfold execOp
    rw [h]
    simp only [Sem.run_bind, hx', hy', run_eqGuard_int, Result.andThen_ok, z2, z1]
    rfl
  · obtain ⟨he, hk2⟩ := ifK_ok hk
    have hkd := kdEq_ok he
    subst hkd
    obtain ⟨c, rfl, hk3⟩ := natK_ok hk2
    obtain ⟨h1, hk4⟩ := ifK_ok hk3
    obtain ⟨h0, hk5⟩ := ifK_ok hk4
    have hc1 : 1 ≤ c := Nat.le_of_ble_eq_true h1
    have hc0 : m % c = 0 := Nat.eq_of_beq_eq_true h0
    refine ⟨.i kd (Int.ofNat (r % c)), fun k' => ?_, fun ρ a A w => ?_⟩
    · simp only [doRem, oK_eq, oE_eq, hm, hb, vI_i, vIR_r, remR, he, ifK_true, natK_ofNat, h1, h0, fN_eq]; rfl
    have hx := (A x (by rw [h]; simp [Op.operands]))
    rw [hm] at hx
    obtain ⟨n, hx', hn1, hn2⟩ := hx
    have hy := (A y (by rw [h]; simp [Op.operands]))
    rw [hb] at hy
    have hy' : a.eval y = .int kd (Int.ofNat c) := hy
    refine ⟨.int kd (Int.ofNat (r % c)), ?_, rfl⟩
    have hrem : (binOp .rem tx (.int kd (n : Int)) (.int kd (Int.ofNat c))).run P w = .ok (.int kd (Int.ofNat (r % c))) w := by
      have hc2 : ¬ (Int.ofNat c) = 0 := by simp; omega
      simp only [binOp, Op.intDiv, hc2, if_false]
      have : Int.tmod (n : Int) (Int.ofNat c) = Int.ofNat (r % c) := by
        rw [← hn1, Nat.mod_mod_of_dvd _ (Nat.dvd_of_mod_eq_zero hc0)]
        rfl
      rw [this, if_neg (by simp)]; rfl
    unfold execOp
    rw [h]
    simp only [Sem.run_bind, hx', hy', run_eqGuard_int, Result.andThen_ok, hrem]
    rfl
theorem pow2_cast (n : Nat) : Int.ofNat (Nat.pow 2 n) = (2 : Int) ^ n := by
  show ((2 ^ n : Nat) : Int) = 2 ^ n
  simp
theorem shl_eq (kd : IntKind) (a : Int) (n : Nat) (k : V → Bool) : shlF kd a n k = k (.i kd (kd.wrap (a * 2 ^ n))) := by
  rw [shlF, wrapF_eq, pow2_cast]; rfl
theorem shr_eq (kd : IntKind) (a : Int) (n : Nat) (k : V → Bool) : shrF kd a n k = k (.i kd (a.fdiv (2 ^ n))) := by
  rw [shrF, forceI_eq, pow2_cast]
theorem shl_op (t : TypeId) (kd kd' : IntKind) (a : Int) (n : Nat) : binOp .shl t (.int kd a) (.int kd' (Int.ofNat n)) = pure (.int kd (kd.wrap (a * 2 ^ (min n kd.bits)))) := by
  have : ¬ (Int.ofNat n) < 0 := by simp
  simp only [binOp, Op.shift, this, if_false]; rfl
theorem shr_op (t : TypeId) (kd kd' : IntKind) (a : Int) (n : Nat) : binOp .shr t (.int kd a) (.int kd' (Int.ofNat n)) = pure (.int kd (a.fdiv (2 ^ (min n kd.bits)))) := by
  have : ¬ (Int.ofNat n) < 0 := by simp
  simp only [binOp, Op.shift, this, if_false]; rfl
theorem run_eqGuard_int2 (P : Program) (w : World) (op : BinOp) (t : TypeId) (x y : Operand) (kd kd' : IntKind) (m n : Int) : (eqGuard op t x y (.int kd m) (.int kd' n)).run P w = .ok () w := by
  unfold eqGuard
  cases op <;> rfl
theorem shift_ok (P : Program) (o : Oper) (op : BinOp) (f : IntKind → Int → Nat → (V → Bool) → Bool) (g : IntKind → Int → Nat → Int) (hf : ∀ kd a n k, f kd a n k = k (.i kd (g kd a n)))
    (ho : op = .shl ∨ op = .shr) (hg : ∀ t kd kd' a n, binOp op t (.int kd a) (.int kd' (Int.ofNat n)) = pure (.int kd (g kd a (min n kd.bits))))
    (tx ty : TypeId) (x y : Operand) (h : o.op = .binOp op tx x y ty) : RunOk P o (doShift f (compO x) (compO y)) := by
  refine RunOk.calm fun cf t hp k hk => ?_
  simp only [doShift, oE_eq] at hk
  obtain ⟨kd, m, hm, hk1⟩ := vI_ok hk
  obtain ⟨kd', n', hn, hk2⟩ := vI_ok hk1
  obtain ⟨n, rfl, hk3⟩ := natK_ok hk2
  refine ⟨.i kd (g kd m (min n kd.bits)), fun k' => by simp only [doShift, oE_eq, hm, vI_i, hn, natK_ofNat, hf], fun ρ a A w => ?_⟩
  have hx := (A x (by rw [h]; simp [Op.operands]))
  rw [hm] at hx
  have hx' : a.eval x = .int kd m := hx
  have hy := (A y (by rw [h]; simp [Op.operands]))
  rw [hn] at hy
  have hy' : a.eval y = .int kd' (Int.ofNat n) := hy
  refine ⟨.int kd (g kd m (min n kd.bits)), ?_, rfl⟩
  unfold execOp
  rw [h]
  simp only [Sem.run_bind, hx', hy', run_eqGuard_int2 P w op tx x y kd kd' m (Int.ofNat n), Result.andThen_ok, hg]
  rfl
/-- what tells of a value whether it is nil -/
structure NilOk (P : Program) (tx : TypeId) (f : V → (Bool → Bool) → Bool) : Prop where
  told : ∀ {v k}, f v k = true → ∃ b, (∀ k', f v k' = k' b)
  guard : ∀ {ρ v v' x y b b'}, (∀ k, f v k = k b) → (∀ k, f v' k = k b') → VRel ρ v x → VRel ρ v' y → ∀ w op a c, (eqGuard op tx a c x y).run P w = .ok () w
  eq : ∀ {ρ v v' x y b b'}, (∀ k, f v k = k b) → (∀ k, f v' k = k b') → VRel ρ v x → VRel ρ v' y → (b || b') = true → ∀ w, (binOp .eql tx x y).run P w = .ok (.bool (b && b')) w ∧ (binOp .neq tx x y).run P w = .ok (.bool (!(b && b'))) w
theorem vLN_ok {v : V} {k : Bool → Bool} (h : vLN v k = true) : v = .l0 ∨ ∃ id g off len fin cap, v = .l id g off len fin cap := by
  rcases vL_ok h with ⟨h, _⟩ | ⟨a, b, c, d, e, f, h, _⟩
  · exact .inl h
  · exact .inr ⟨a, b, c, d, e, f, h⟩
theorem ln_rel {ρ : Emb} {v : V} {x : Value} {b : Bool} (h : ∀ k, vLN v k = k b) (hr : VRel ρ v x) : (b = true ∧ x = .slice none 0 0) ∨ (b = false ∧ ∃ a l c, x = .slice (some a) l c) := by
  have hb := h (fun c => c == b)
  simp at hb
  rcases vLN_ok hb with rfl | ⟨id, g, off, len, fin, cap, rfl⟩
  · have : true = b := by have := h _root_.id; exact this
    exact .inl ⟨this.symm, hr⟩
  · have : false = b := by have := h _root_.id; exact this
    obtain ⟨L, a, c, _, hx, _⟩ := hr
    exact .inr ⟨this.symm, _, _, _, hx⟩
theorem nilL (P : Program) (tx e : TypeId) (hu : P.underlying tx = some (.slice e)) : NilOk P tx vLN where
  told := fun {v k} h => by
    rcases vLN_ok h with rfl | ⟨id, g, off, len, fin, cap, rfl⟩
    · exact ⟨true, fun _ => rfl⟩
    · exact ⟨false, fun _ => rfl⟩
  guard := fun {ρ v v' x y b b'} h1 h2 r1 r2 w op a c => by
    unfold eqGuard
    rcases ln_rel h1 r1 with ⟨_, rfl⟩ | ⟨_, _, _, _, rfl⟩ <;> rcases ln_rel h2 r2 with ⟨_, rfl⟩ | ⟨_, _, _, _, rfl⟩ <;> cases op <;> rfl
  eq := fun {ρ v v' x y b b'} h1 h2 r1 r2 hb w => by
    have key : (Op.equal tx x y).run P w = .ok (b && b') w := by
      unfold Op.equal Op.maxDepth Op.equalIn
      simp only [Sem.run_bind, run_underlying hu, Result.andThen_ok]
      rcases ln_rel h1 r1 with ⟨rfl, rfl⟩ | ⟨rfl, _, _, _, rfl⟩ <;> rcases ln_rel h2 r2 with ⟨rfl, rfl⟩ | ⟨rfl, _, _, _, rfl⟩ <;> first | rfl | exact absurd hb (by decide)
    have e1 : binOp .eql tx x y = (do pure (.bool (← Op.equal tx x y))) := by
      rcases ln_rel h1 r1 with ⟨_, rfl⟩ | ⟨_, _, _, _, rfl⟩ <;> rcases ln_rel h2 r2 with ⟨_, rfl⟩ | ⟨_, _, _, _, rfl⟩ <;> rfl
    have e2 : binOp .neq tx x y = (do pure (.bool (!(← Op.equal tx x y)))) := by
      rcases ln_rel h1 r1 with ⟨_, rfl⟩ | ⟨_, _, _, _, rfl⟩ <;> rcases ln_rel h2 r2 with ⟨_, rfl⟩ | ⟨_, _, _, _, rfl⟩ <;> rfl
    constructor
    · rw [e1, Sem.run_bind, key]; rfl
    · rw [e2, Sem.run_bind, key]; rfl
theorem vMN_ok {v : V} {k : Bool → Bool} (h : vMN v k = true) : v = .m0 ∨ ∃ id, v = .m id := by
  cases v <;> first | exact .inl rfl | exact .inr ⟨_, rfl⟩ | exact Bool.noConfusion h
theorem mn_rel {ρ : Emb} {v : V} {x : Value} {b : Bool} (h : ∀ k, vMN v k = k b) (hr : VRel ρ v x) : (b = true ∧ x = .map none) ∨ (b = false ∧ ∃ a, x = .map (some a)) := by
  have hb := h (fun c => c == b)
  simp at hb
  rcases vMN_ok hb with rfl | ⟨id, rfl⟩
  · have : true = b := by have := h _root_.id; exact this
    exact .inl ⟨this.symm, hr⟩
  · have : false = b := by have := h _root_.id; exact this
    obtain ⟨L, _, hx⟩ := hr
    exact .inr ⟨this.symm, _, hx⟩
theorem nilM (P : Program) (tx kt e : TypeId) (hu : P.underlying tx = some (.map kt e)) : NilOk P tx vMN where
  told := fun {v k} h => by
    rcases vMN_ok h with rfl | ⟨id, rfl⟩
    · exact ⟨true, fun _ => rfl⟩
    · exact ⟨false, fun _ => rfl⟩
  guard := fun {ρ v v' x y b b'} h1 h2 r1 r2 w op a c => by
    unfold eqGuard
    rcases mn_rel h1 r1 with ⟨_, rfl⟩ | ⟨_, _, rfl⟩ <;> rcases mn_rel h2 r2 with ⟨_, rfl⟩ | ⟨_, _, rfl⟩ <;> cases op <;> rfl
  eq := fun {ρ v v' x y b b'} h1 h2 r1 r2 hb w => by
    have key : (Op.equal tx x y).run P w = .ok (b && b') w := by
      unfold Op.equal Op.maxDepth Op.equalIn
      simp only [Sem.run_bind, run_underlying hu, Result.andThen_ok]
      rcases mn_rel h1 r1 with ⟨rfl, rfl⟩ | ⟨rfl, _, rfl⟩ <;> rcases mn_rel h2 r2 with ⟨rfl, rfl⟩ | ⟨rfl, _, rfl⟩ <;> first | rfl | exact absurd hb (by decide)
    have e1 : binOp .eql tx x y = (do pure (.bool (← Op.equal tx x y))) := by
      rcases mn_rel h1 r1 with ⟨_, rfl⟩ | ⟨_, _, rfl⟩ <;> rcases mn_rel h2 r2 with ⟨_, rfl⟩ | ⟨_, _, rfl⟩ <;> rfl
    have e2 : binOp .neq tx x y = (do pure (.bool (!(← Op.equal tx x y)))) := by
      rcases mn_rel h1 r1 with ⟨_, rfl⟩ | ⟨_, _, rfl⟩ <;> rcases mn_rel h2 r2 with ⟨_, rfl⟩ | ⟨_, _, rfl⟩ <;> rfl
    constructor
    · rw [e1, Sem.run_bind, key]; rfl
    · rw [e2, Sem.run_bind, key]; rfl
theorem nil_ok (P : Program) (o : Oper) (f : V → (Bool → Bool) → Bool) (ne : Bool) (tx ty : TypeId) (x y : Operand) (hf : NilOk P tx f) (h : o.op = .binOp (if ne then .neq else .eql) tx x y ty) : RunOk P o (doNil f ne (compO x) (compO y)) := by
  refine RunOk.calm fun cf t hp k hk => ?_
  simp only [doNil, oE_eq] at hk
  obtain ⟨m, hm⟩ := hf.told hk
  rw [hm] at hk
  obtain ⟨n, hn⟩ := hf.told hk
  rw [hn] at hk
  obtain ⟨hmn, hk⟩ := ifK_ok hk
  refine ⟨.b (xor ne (m && n)), fun k' => by simp only [doNil, oE_eq, hm, hn, hmn, ifK_true, fB_eq], fun ρ a A w => ?_⟩
  have hx := (A x (by rw [h]; simp [Op.operands]))
  have hy := (A y (by rw [h]; simp [Op.operands]))
  refine ⟨.bool (xor ne (m && n)), ?_, rfl⟩
  have hg := hf.guard hm hn hx hy w (if ne then .neq else .eql) x y
  obtain ⟨q1, q2⟩ := hf.eq hm hn hx hy hmn w
  unfold execOp
  rw [h]
  cases ne
  · simp only [Bool.false_eq_true, if_false] at hg ⊢
    simp only [Sem.run_bind, hg, Result.andThen_ok, q1]
    cases m <;> cases n <;> rfl
  · simp only [if_true] at hg ⊢
    simp only [Sem.run_bind, hg, Result.andThen_ok, q2]
    cases m <;> cases n <;> rfl
theorem ofConst_x0 {v : Value} (h : ofConst v = .x0) : v = .nilIface := by
  unfold ofConst at h
  split at h <;> first | rfl | cases h | (rename_i r; cases r <;> cases h)
theorem isX0_ok {y : Operand} (h : isX0 (compO y) = true) : y = .const .nilIface := by
  cases y with
  | tmp k =>
    have h' : isX0 (match Nat.ble (Nat.succ k) 512 with | true => .t (slOf k) | false => .c .u) = true := h
    cases hb : Nat.ble (Nat.succ k) 512 <;> rw [hb] at h' <;> cases h'
  | const v =>
    have h' : isX0 (.c (ofConst v)) = true := h
    have : ofConst v = .x0 := by
      generalize ofConst v = u at h'
      cases u <;> first | rfl | cases h'
    rw [ofConst_x0 this]
  | func f => cases h
  | global g => cases h
theorem vXN_ok {v : V} {k : Bool → Bool} (h : vXN v k = true) : ∃ b, (∀ k', vXN v k' = k' b) ∧ ∀ {ρ : Emb} {x : Value}, VRel ρ v x → (b = true ∧ x = .nilIface) ∨ (b = false ∧ ∃ t z, x = .iface t z) := by
  cases v <;> try exact Bool.noConfusion h
  · exact ⟨true, fun _ => rfl, fun hr => .inl ⟨rfl, hr⟩⟩
  · exact ⟨false, fun _ => rfl, fun hr => by obtain ⟨z, e, _⟩ := hr; exact .inr ⟨rfl, _, _, e⟩⟩
theorem xn_ok (P : Program) (o : Oper) (ne : Bool) (tx ty : TypeId) (x : Operand) (ms : Array _) (hu : P.underlying tx = some (.interface ms)) (h : o.op = .binOp (if ne then .neq else .eql) tx x (.const .nilIface) ty) : RunOk P o (doXN ne (compO x)) := by
  refine RunOk.calm fun cf t hp k hk => ?_
  simp only [doXN, oE_eq] at hk
  obtain ⟨b, hm, hr⟩ := vXN_ok hk
  refine ⟨.b (xor ne b), fun k' => by simp only [doXN, oE_eq, hm, fB_eq], fun ρ a A w => ?_⟩
  have hx := (A x (by rw [h]; simp [Op.operands]))
  refine ⟨.bool (xor ne b), ?_, rfl⟩
  unfold execOp
  rw [h]
  have he : a.eval (.const .nilIface) = .nilIface := rfl
  rcases hr hx with ⟨rfl, e⟩ | ⟨rfl, q, z, e⟩
  · have hg : ∀ op, (eqGuard op tx x (.const .nilIface) .nilIface .nilIface).run P w = .ok () w := fun op => by cases op <;> cases x <;> rfl
    have key : (Op.equal tx .nilIface .nilIface).run P w = .ok true w := by
      unfold Op.equal Op.maxDepth Op.equalIn
      simp only [Sem.run_bind, run_underlying hu, Result.andThen_ok]
      rfl
    have e1 : binOp .eql tx .nilIface .nilIface = (do pure (.bool (← Op.equal tx .nilIface .nilIface))) := rfl
    have e2 : binOp .neq tx .nilIface .nilIface = (do pure (.bool (!(← Op.equal tx .nilIface .nilIface)))) := rfl
    cases ne
    · simp only [Bool.false_eq_true, if_false, Sem.run_bind, e, he, hg, Result.andThen_ok, e1, key]; rfl
    · simp only [if_true, Sem.run_bind, e, he, hg, Result.andThen_ok, e2, key]; rfl
  · have hg : ∀ op, (eqGuard op tx x (.const .nilIface) (.iface q z) .nilIface).run P w = .ok () w := fun op => by cases op <;> rfl
    have key : (Op.equal tx (.iface q z) .nilIface).run P w = .ok false w := by
      unfold Op.equal Op.maxDepth Op.equalIn
      simp only [Sem.run_bind, run_underlying hu, Result.andThen_ok]
      rfl
    have e1 : binOp .eql tx (.iface q z) .nilIface = (do pure (.bool (← Op.equal tx (.iface q z) .nilIface))) := rfl
    have e2 : binOp .neq tx (.iface q z) .nilIface = (do pure (.bool (!(← Op.equal tx (.iface q z) .nilIface)))) := rfl
    cases ne
    · simp only [Bool.false_eq_true, if_false, Sem.run_bind, e, he, hg, Result.andThen_ok, e1, key]; rfl
    · simp only [if_true, Sem.run_bind, e, he, hg, Result.andThen_ok, e2, key]; rfl
theorem kdOf_ok {ty : Option Ty} {kd : KD} (h : kdOf ty = some kd) : ∃ b z d, ty = some ⟨1, b, d, z⟩ ∧ ((kd = .i ∧ ∃ k, d = .int k) ∨ (kd = .b ∧ d = .bool) ∨ (kd = .s ∧ d = .string)) := by
  unfold kdOf at h
  split at h <;> cases h
  · exact ⟨_, _, _, rfl, .inl ⟨rfl, _, rfl⟩⟩
  · exact ⟨_, _, _, rfl, .inr (.inl ⟨rfl, rfl⟩)⟩
  · exact ⟨_, _, _, rfl, .inr (.inr ⟨rfl, rfl⟩)⟩
theorem eqCell_ok {kd : KD} {a b : V} {k : Bool → Bool} (h : eqCell kd a b k = true) : ∃ r, (∀ k', eqCell kd a b k' = k' r) ∧ k r = true ∧
    ∀ (P : Program) (ρ : Emb) (x y : Value) (t : TypeId) (bb : Nat) (z : List V) (d : TypeDesc) (D : Nat) (w : World), VRel ρ a x → VRel ρ b y → tyAt P t = some ⟨1, bb, d, z⟩ →
      ((kd = .i ∧ ∃ k, d = .int k) ∨ (kd = .b ∧ d = .bool) ∨ (kd = .s ∧ d = .string)) → (Op.equalIn (D + 1) t x y).run P w = .ok r w := by
  cases kd with
  | i =>
    obtain ⟨ka, m, rfl, h⟩ := vI_ok h
    obtain ⟨kb, n, rfl, h⟩ := vI_ok h
    obtain ⟨hk, h⟩ := ifK_ok h
    have hk' := kdEq_ok hk
    subst hk'
    have e : ∀ k' : Bool → Bool, eqCell .i (.i ka m) (.i ka n) k' = k' (eqI m n) := fun k' => by
      show ifK (kdEq ka ka) (fun _ => boolK (eqI m n) (fun _ => k' true) (fun _ => k' false)) = _
      rw [hk, ifK_true]; cases eqI m n <;> rfl
    refine ⟨_, e, by rw [← e k]; exact h, fun P ρ x y t bb z d D w hx hy ht hd => ?_⟩
    obtain ⟨i, i1, i2, i3, i4, i5⟩ := tyAt_ok ht
    rcases hd with ⟨_, kk, rfl⟩ | ⟨h0, _⟩ | ⟨h0, _⟩
    · rw [show x = .int ka m from hx, show y = .int ka n from hy, run_equalIn_int w D t ka kk m n i5, eqI_eq]
    · cases h0
    · cases h0
  | b =>
    obtain ⟨m, rfl, h⟩ := vB_ok h
    obtain ⟨n, rfl, h⟩ := vB_ok h
    have e : ∀ k' : Bool → Bool, eqCell .b (.b m) (.b n) k' = k' (xor (xor m n) true) := fun k' => by cases m <;> cases n <;> rfl
    refine ⟨_, e, by cases m <;> cases n <;> exact h, fun P ρ x y t bb z d D w hx hy ht hd => ?_⟩
    obtain ⟨i, i1, i2, i3, i4, i5⟩ := tyAt_ok ht
    rcases hd with ⟨h0, _⟩ | ⟨_, rfl⟩ | ⟨h0, _⟩
    · cases h0
    · rw [show x = .bool m from hx, show y = .bool n from hy, run_equalIn_bool' w D t m n i5]
      cases m <;> cases n <;> rfl
    · cases h0
  | s =>
    obtain ⟨la, na, rfl, h⟩ := vS_ok h
    obtain ⟨lb, nb, rfl, h⟩ := vS_ok h
    have e : ∀ k' : Bool → Bool, eqCell .s (.s la na) (.s lb nb) k' = k' (eqS la na lb nb) := fun k' => by
      show boolK (eqS la na lb nb) (fun _ => k' true) (fun _ => k' false) = _
      cases eqS la na lb nb <;> rfl
    refine ⟨_, e, by rw [← e k]; exact h, fun P ρ x y t bb z d D w hx hy ht hd => ?_⟩
    obtain ⟨i, i1, i2, i3, i4, i5⟩ := tyAt_ok ht
    rcases hd with ⟨h0, _⟩ | ⟨h0, _⟩ | ⟨_, rfl⟩
    · cases h0
    · cases h0
    · obtain ⟨bx, rfl, lx, px, sx⟩ := srel hx
      obtain ⟨b', rfl, ly, py, sy⟩ := srel hy
      rw [run_equalIn_string w D t bx b' i5, eqS_pk, lx, px, ly, py]
theorem eqL_ok : ∀ {ks : List KD} {vs ws : List V} {k : Bool → Bool}, eqL ks vs ws k = true → ∃ r, (∀ k', eqL ks vs ws k' = k' r) ∧ k r = true ∧
    ∀ (P : Program) (ρ : Emb) (xs ys : Array Value) (D : Nat) (w : World) (fs : List Field) (n : Nat), kdsOf P fs n = some ks → LRel ρ vs (xs.toList.drop n) → LRel ρ ws (ys.toList.drop n) → (Op.eqFields (D + 1) xs ys fs).run P w = .ok r w
  | [], vs, ws, k, h => by
    refine ⟨true, fun k' => rfl, h, fun P ρ xs ys D w fs n hf _ _ => ?_⟩
    cases fs with
    | nil => rfl
    | cons f r => unfold kdsOf at hf; split at hf <;> cases hf
  | kd :: ks, [], ws, k, h => by exact Bool.noConfusion h
  | kd :: ks, v :: vs, [], k, h => by exact Bool.noConfusion h
  | kd :: ks, v :: vs, u :: us, k, h => by
    have h' : eqCell kd v u (fun r => boolK r (fun _ => eqL ks vs us k) (fun _ => k false)) = true := h
    obtain ⟨r, r1, r2, r3⟩ := eqCell_ok h'
    have main : ∀ (P : Program) (ρ : Emb) (xs ys : Array Value) (D : Nat) (w : World) (fs : List Field) (n : Nat), kdsOf P fs n = some (kd :: ks) → LRel ρ (v :: vs) (xs.toList.drop n) → LRel ρ (u :: us) (ys.toList.drop n) →
        ∃ f q, fs = f :: q ∧ kdsOf P q (n + 1) = some ks ∧ LRel ρ vs (xs.toList.drop (n + 1)) ∧ LRel ρ us (ys.toList.drop (n + 1)) ∧
          (Op.eqFields (D + 1) xs ys fs).run P w = if r = true then (Op.eqFields (D + 1) xs ys q).run P w else .ok false w := by
      intro P ρ xs ys D w fs n hf hx hy
      cases fs with
      | nil => cases hf
      | cons f q =>
        unfold kdsOf at hf
        split at hf
        case h_2 => cases hf
        rename_i kd' ks' e1 e2 e3
        cases hf
        simp only [Bool.and_eq_true] at e1
        have hn : f.name ≠ "_" := by
          intro e; have := e1.1; rw [e] at this; exact absurd this (by decide)
        have ho : f.offset = n := Nat.eq_of_beq_eq_true e1.2
        obtain ⟨bb, z, d, ht, hd⟩ := kdOf_ok e2
        obtain ⟨j, j1, j2, j3, j4, j5⟩ := tyAt_ok ht
        cases hxl : xs.toList.drop n with
        | nil => rw [hxl] at hx; exact hx.elim
        | cons x xr =>
          cases hyl : ys.toList.drop n with
          | nil => rw [hyl] at hy; exact hy.elim
          | cons y yr =>
            rw [hxl] at hx; rw [hyl] at hy
            have gx : xs[f.offset]? = some x := by
              have : (xs.toList.drop n)[0]? = some x := by rw [hxl]; rfl
              rw [List.getElem?_drop] at this
              rw [ho]; simpa using this
            have gy : ys[f.offset]? = some y := by
              have : (ys.toList.drop n)[0]? = some y := by rw [hyl]; rfl
              rw [List.getElem?_drop] at this
              rw [ho]; simpa using this
            have hag : isAggD d = false := by rcases hd with ⟨_, kk, rfl⟩ | ⟨_, rfl⟩ | ⟨_, rfl⟩ <;> rfl
            have dx : xs.toList.drop (n + 1) = xr := by rw [← List.drop_drop, hxl]; rfl
            have dy : ys.toList.drop (n + 1) = yr := by rw [← List.drop_drop, hyl]; rfl
            refine ⟨f, q, rfl, e3, by rw [dx]; exact hx.2, by rw [dy]; exact hy.2, ?_⟩
            have pr := r3 P ρ x y f.type bb z d D w hx.1 hy.1 ht hd
            have px : (part f.type xs f.offset).run P w = .ok x w := by
              rw [run_part j1 j5, hag]; simp only [Bool.false_eq_true, if_false, gx]; try rfl
            have py : (part f.type ys f.offset).run P w = .ok y w := by
              rw [run_part j1 j5, hag]; simp only [Bool.false_eq_true, if_false, gy]; try rfl
            simp only [Op.eqFields, ne_eq, hn, not_false_eq_true, if_true, Sem.run_bind, px, py, pr, Result.andThen_ok]
            cases r
            · simp
            · simp
    cases r with
    | false =>
      refine ⟨false, fun k' => by show eqCell kd v u (fun r => boolK r (fun _ => eqL ks vs us k') (fun _ => k' false)) = _; rw [r1]; rfl, r2, fun P ρ xs ys D w fs n hf hx hy => ?_⟩
      obtain ⟨f, q, _, _, _, _, e⟩ := main P ρ xs ys D w fs n hf hx hy
      rw [e, if_neg (by decide)]
    | true =>
      obtain ⟨s, s1, s2, s3⟩ := eqL_ok r2
      refine ⟨s, fun k' => by show eqCell kd v u (fun r => boolK r (fun _ => eqL ks vs us k') (fun _ => k' false)) = _; rw [r1]; exact s1 k', s2, fun P ρ xs ys D w fs n hf hx hy => ?_⟩
      obtain ⟨f, q, _, hq, hx', hy', e⟩ := main P ρ xs ys D w fs n hf hx hy
      rw [e, if_pos rfl]
      exact s3 P ρ xs ys D w q (n + 1) hq hx' hy'
theorem seq_ok (P : Program) (o : Oper) (ne : Bool) (tx ty : TypeId) (x y : Operand) (fs : Array Field) (ks : List KD) (hu : P.underlying tx = some (.struct fs)) (hks : kdsOf P fs.toList 0 = some ks) (hst : P.stoodInHeld tx = false) (hg : P.eqGuardType P.depth tx = false)
    (h : o.op = .binOp (if ne then .neq else .eql) tx x y ty) : RunOk P o (doSEq ks ne (compO x) (compO y)) := by
  refine RunOk.calm fun cf t hp k hk => ?_
  simp only [doSEq, oE_eq] at hk
  obtain ⟨vs, hv, hk⟩ := vA_ok hk
  obtain ⟨ws, hw, hk⟩ := vA_ok hk
  obtain ⟨r, r1, r2, r3⟩ := eqL_ok hk
  refine ⟨.b (xor ne r), fun k' => by simp only [doSEq, oE_eq, hv, vA_a, hw, r1, fB_eq], fun ρ a A w => ?_⟩
  have hx := (A x (by rw [h]; simp [Op.operands]))
  rw [hv] at hx
  obtain ⟨xs, ex, hx⟩ := hx
  have hy := (A y (by rw [h]; simp [Op.operands]))
  rw [hw] at hy
  obtain ⟨ys, ey, hy⟩ := hy
  refine ⟨.bool (xor ne r), ?_, rfl⟩
  unfold execOp
  rw [h]
  have hfo : P.fieldsOf tx = fs := by unfold Program.fieldsOf; rw [hu]
  have heq : (Op.equalIn 10000 tx (.agg xs) (.agg ys)).run P w = .ok r w := by
    rw [show (10000 : Nat) = 9999 + 1 from rfl, run_equalIn_struct w 9999 tx xs ys (by rw [hfo]; exact hu) hst, hfo]
    exact r3 P ρ xs ys 9998 w fs.toList 0 hks (by simpa using hx) (by simpa using hy)
  cases ne
  · simp only [Bool.false_eq_true, if_false, Sem.run_bind, ex, ey, run_eqGuard_agg w .eql tx x y xs ys hg, Result.andThen_ok, run_eql_struct, heq]
    cases r <;> rfl
  · simp only [if_true, Sem.run_bind, ex, ey, run_eqGuard_agg w .neq tx x y xs ys hg, Result.andThen_ok, run_neq_struct, heq]
    cases r <;> rfl
theorem compSEq_ok (P : Program) (o : Oper) (op : BinOp) (tx ty : TypeId) (x y : Operand) (fs : Array Field) (hu : P.underlying tx = some (.struct fs)) (h : o.op = .binOp op tx x y ty) : RunOk P o (runK (compSEq P tx fs op (compO x) (compO y))) := by
  unfold compSEq
  split
  · rename_i ks e1 e2
    simp only [Bool.and_eq_true, Bool.not_eq_true'] at e1
    cases op <;> try exact no_ok P o
    · exact seq_ok P o false tx ty x y fs ks hu e2 e1.1 e1.2 h
    · exact seq_ok P o true tx ty x y fs ks hu e2 e1.1 e1.2 h
  · exact no_ok P o
theorem binop_ok (P : Program) (o : Oper) (op : BinOp) (tx ty : TypeId) (x y : Operand) (h : o.op = .binOp op tx x y ty) : RunOk P o (runK (compBin P op tx (compO x) (compO y))) := by
  cases ht : tyAt P tx with
  | none => simp only [compBin, ht]; exact no_ok P o
  | some tt =>
    obtain ⟨size, bytes, d, z⟩ := tt
    obtain ⟨i, i1, i2, i3, i4, i5⟩ := tyAt_ok ht
    cases d <;> simp only [compBin, ht] <;> try exact no_ok P o
    · cases op <;> try exact no_ok P o
      · exact bool_ok P o false tx ty x y i5 h
      · exact bool_ok P o true tx ty x y i5 h
    · cases op <;> first
        | exact rem_ok P o tx ty x y h
        | exact shift_ok P o .shl shlF (fun kd a n => kd.wrap (a * 2 ^ n)) (fun kd a n k => shl_eq kd a n k) (.inl rfl) (fun t kd kd' a n => shl_op t kd kd' a n) tx ty x y h
        | exact shift_ok P o .shr shrF (fun kd a n => a.fdiv (2 ^ n)) (fun kd a n k => shr_eq kd a n k) (.inr rfl) (fun t kd kd' a n => shr_op t kd kd' a n) tx ty x y h
        | exact bin2_ok P o _ tx ty x y h
    · exact strop_ok P o op tx ty x y h
    · cases op <;> try exact no_ok P o
      · exact ptr_ok P o false tx _ ty x y i5 h
      · exact ptr_ok P o true tx _ ty x y i5 h
    · cases op <;> try exact no_ok P o
      · exact nil_ok P o vLN false tx ty x y (nilL P tx _ i5) h
      · exact nil_ok P o vLN true tx ty x y (nilL P tx _ i5) h
    · cases op <;> try exact no_ok P o
      · exact nil_ok P o vMN false tx ty x y (nilM P tx _ _ i5) h
      · exact nil_ok P o vMN true tx ty x y (nilM P tx _ _ i5) h
    · exact compSEq_ok P o op tx ty x y _ i5 h
    · unfold compBinX
      split
      · exact no_ok P o
      · rename_i hy
        have hy := isX0_ok hy
        subst hy
        cases op <;> try exact no_ok P o
        · exact xn_ok P o false tx ty x _ i5 h
        · exact xn_ok P o true tx ty x _ i5 h
theorem unop_ok (P : Program) (o : Oper) (op : UnOp) (tx : TypeId) (x : Operand) (h : o.op = .unOp op tx x) : RunOk P o (runK (compUn op (compO x))) := by
  cases op <;> simp only [compUn] <;> try exact no_ok P o
  · refine RunOk.calm fun cf t hp k hk => ?_
    simp only [runK_mk, doNeg, oK_eq, oE_eq] at hk
    obtain ⟨kd, n, hn, hk⟩ := vI_ok hk
    refine ⟨.i kd (kd.wrap (0 - n)), fun k' => by simp only [runK_mk, doNeg, oK_eq, oE_eq, hn, vI_i, wrapF_eq]; rw [show Int.neg n = 0 - n by show -n = 0 - n; omega], fun ρ a A w => ?_⟩
    have hx := (A x (by rw [h]; simp [Op.operands]))
    rw [hn] at hx
    have hx' : a.eval x = .int kd n := hx
    refine ⟨.int kd (kd.wrap (0 - n)), ?_, rfl⟩
    unfold execOp
    rw [h]
    simp only [hx', Op.unary, Op.intArith]
    rfl
  · refine RunOk.calm fun cf t hp k hk => ?_
    simp only [runK_mk, doNot, oK_eq, oE_eq] at hk
    obtain ⟨b, hb, hk⟩ := vB_ok hk
    refine ⟨.b (!b), fun k' => by simp only [runK_mk, doNot, oK_eq, oE_eq, hb, vB_b, fB_eq], fun ρ a A w => ?_⟩
    have hx := (A x (by rw [h]; simp [Op.operands]))
    rw [hb] at hx
    have hx' : a.eval x = .bool b := hx
    refine ⟨.bool (!b), ?_, rfl⟩
    unfold execOp
    rw [h]
    simp only [hx', Op.unary]
    rfl
theorem conv_ok (P : Program) (o : Oper) (s d : TypeId) (x : Operand) (h : o.op = .convert s d x) : RunOk P o (runK (compConv P s d (compO x))) := by
  cases hs : tyAt P s with
  | none => simp only [compConv, hs]; exact no_ok P o
  | some st =>
    cases hd : tyAt P d with
    | none => simp only [compConv, hs, hd]; exact no_ok P o
    | some dt =>
      obtain ⟨size, bytes, dd, z⟩ := dt
      obtain ⟨i, i1, i2, i3, i4, i5⟩ := tyAt_ok hd
      obtain ⟨j, j1, j2, j3, j4, j5⟩ := tyAt_ok hs
      obtain ⟨ssize, sbytes, sd, sz⟩ := st
      cases dd <;> try (cases sd <;> simp only [compConv, hs, hd] <;> first | exact no_ok P o | exact strmove_ok P o s d x j5 i5 h | exact b2s_ok P o s d _ x j5 i5 h | exact i2s_ok P o s d _ x j5 i5 h | exact s2b_ok P o s d _ x j5 i5 h | exact p2u_ok P o s d _ x j5 i5 h | exact u2p_ok P o s d _ x j5 i5 h)
      rename_i kd
      have ecv : compConv P s d (compO x) = ⟨doConv kd (compO x)⟩ := by simp only [compConv, hs, hd]
      rw [ecv]
      refine RunOk.calm fun cf t hp k hk => ?_
      simp only [runK_mk, doConv, oK_eq, oE_eq] at hk
      rcases vIR_ok hk with ⟨kd', n, hn, hk⟩ | ⟨kd', m, r, hi, hn, hk⟩
      · refine ⟨.i kd (kd.wrap n), fun k' => by simp only [runK_mk, doConv, oK_eq, oE_eq, hn, vIR_i, wrapF_eq], fun ρ a A w => ?_⟩
        have hx := (A x (by rw [h]; simp [Op.operands]))
        rw [hn] at hx
        have hx' : a.eval x = .int kd' n := hx
        refine ⟨.int kd (kd.wrap n), ?_, rfl⟩
        unfold execOp
        rw [h]
        simp only [hx', convert, Sem.run_bind, run_underlying j5, run_underlying i5, Result.andThen_ok, Conv.intToInt]
        rfl
      · obtain ⟨hb, hk⟩ := ifK_ok hk
        refine ⟨.r kd m r hi, fun k' => by simp only [runK_mk, doConv, oK_eq, oE_eq, hn, vIR_r, hb, ifK_true], fun ρ a A w => ?_⟩
        have hx := (A x (by rw [h]; simp [Op.operands]))
        rw [hn] at hx
        obtain ⟨n, hx', hn1, hn2⟩ := hx
        have hb' : hi ≤ mxOf kd := Nat.le_of_ble_eq_true hb
        refine ⟨.int kd n, ?_, n, rfl, hn1, hn2⟩
        unfold execOp
        rw [h]
        have hw : kd.wrap (n : Int) = n := wrap_small kd n (by omega)
        simp only [hx', convert, Sem.run_bind, run_underlying j5, run_underlying i5, Result.andThen_ok, Conv.intToInt, hw]
        rfl
theorem extract_ok (P : Program) (o : Oper) (x : Operand) (n : Nat) (h : o.op = .extract x n) : RunOk P o (doExtract n (compO x)) := by
  refine RunOk.calm fun cf t hp k hk => ?_
  simp only [doExtract, oK_eq, oE_eq] at hk
  obtain ⟨cs, hv, hk⟩ := vT_ok hk
  obtain ⟨v, hcv, hk⟩ := optK_ok hk
  refine ⟨v, fun k' => by simp only [doExtract, oK_eq, oE_eq, hv, vT_tu, hcv, optK_some, forceV_eq], fun ρ a A w => ?_⟩
  have hx := (A x (by rw [h]; simp [Op.operands]))
  rw [hv] at hx
  obtain ⟨arr, l1, l2⟩ := hx
  obtain ⟨y, y1, y2⟩ := l2.get hcv
  have y1' : arr[n]? = some y := by simpa using y1
  refine ⟨y, ?_, y2⟩
  unfold execOp
  rw [h]
  simp only [l1, Instr.extract, y1']
  rfl
theorem run_resolve_value (P : Program) (w : World) (ρ : Operand → Value) (f : FuncId) (args : Array Operand) (tys : Array TypeId) (ty : TypeId) (hf : ρ (.func f) = .func (.func f) #[] #[]) :
    (resolve ρ ⟨.value (.func f), args, tys⟩ ty).run P w = .ok { target := .fn (.func f) #[], args := #[] ++ args.map ρ } w := by
  unfold resolve
  simp only [hf, Deferred.ofValue]
  rfl
theorem call_ok (P : Program) (o : Oper) (f : FuncId) (args : Array Operand) (tys : Array TypeId) (h : o.op = .call ⟨.value (.func f), args, tys⟩) : RunOk P o (doCall f (args.toList.map compO)) := by
  intro cf hcf t hp k hk
  simp only [doCall, evalsK_ok] at hk
  obtain ⟨v, h', h1, h2, h3, h4⟩ := hcf f _ hp k hk
  refine ⟨v, h', fun k' => by simp only [doCall, evalsK_ok, h1], h2, h3, fun ρ a w w0 A R => ?_, fun hs => by rw [h] at hs; exact Bool.noConfusion hs⟩
  obtain ⟨c1, c2⟩ := h4 ρ w w0 _ (ORel.list (os := args.toList) fun x hx => A x (by rw [h]; simp [Op.operands, Call.operands]; exact .inr (by simpa using hx))) R
  refine ⟨.enter f (args.toList.map a.eval).toArray, w, ?_, c2⟩
  unfold execOp
  rw [h]
  simp only [Sem.run_bind, run_resolve_value P w a.eval f args tys o.type rfl, Result.andThen_ok, invoke]
  rw [← c1]
  rw [show ((#[] ++ args.map a.eval) ++ #[] : Array Value) = (args.toList.map a.eval).toArray by apply Array.ext'; simp]
theorem app_eqV (a b : List V) : app a b = a ++ b := by
  induction a with
  | nil => rfl
  | cons x r ih => show x :: app r b = _; rw [ih]; rfl
theorem LRel.app {ρ : Emb} : ∀ {vs : List V} {xs : List Value} {us : List V} {ys : List Value}, LRel ρ vs xs → LRel ρ us ys → LRel ρ (vs ++ us) (xs ++ ys)
  | [], [], _, _, _, b => b
  | _ :: _, _ :: _, _, _, a, b => ⟨a.1, LRel.app a.2 b⟩
/-- a call of a function value -/
theorem callV_ok (P : Program) (o : Oper) (n : Tmp) (args : Array Operand) (tys : Array TypeId) (h : o.op = .call ⟨.value (.tmp n), args, tys⟩) : RunOk P o (doCallV (compO (.tmp n)) (args.toList.map compO)) := by
  intro cf hcf t hp k hk
  simp only [doCallV, evalsK_ok, oE_eq] at hk
  obtain ⟨f, cs, hv, hk⟩ := vF_ok hk
  rw [app_eqV] at hk
  obtain ⟨v, h', h1, h2, h3, h4⟩ := hcf f _ hp k hk
  refine ⟨v, h', fun k' => by simp only [doCallV, evalsK_ok, oE_eq, hv, vF_f, app_eqV, h1], h2, h3, fun ρ a w w0 A R => ?_, fun hs => by rw [h] at hs; exact Bool.noConfusion hs⟩
  have hx := A (.tmp n) (by rw [h]; simp [Op.operands, Call.operands])
  rw [hv] at hx
  obtain ⟨arr, e1, e2⟩ := hx
  have e1 : a.eval (.tmp n) = .func (.func f) #[] arr := e1
  obtain ⟨c1, c2⟩ := h4 ρ w w0 _ (LRel.app (ORel.list (os := args.toList) fun x hx => A x (by rw [h]; simp [Op.operands, Call.operands]; exact .inr (by simpa using hx))) e2) R
  refine ⟨.enter f (args.toList.map a.eval ++ arr.toList).toArray, w, ?_, c2⟩
  unfold execOp
  rw [h]
  have hr : (resolve a.eval ⟨.value (.tmp n), args, tys⟩ o.type).run P w = .ok { target := .fn (.func f) arr, args := #[] ++ args.map a.eval } w := by
    unfold resolve
    simp only [e1, Deferred.ofValue]
    rfl
  simp only [Sem.run_bind, hr, Result.andThen_ok, invoke]
  rw [← c1]
  rw [show ((#[] ++ args.map a.eval) ++ arr : Array Value) = (args.toList.map a.eval ++ arr.toList).toArray by apply Array.ext'; simp]
/-- a function value is made -/
theorem mkF_ok (P : Program) (o : Oper) (fn : Fn) (first cap : Array Operand) (h : o.op = .makeFunc fn first cap) : RunOk P o (runK (compMkF fn first.toList cap.toList)) := by
  unfold compMkF
  split
  · rename_i f
    unfold compMkF1
    split
    · rename_i hf
      have hs : still P o.op = false := by rw [h]; rfl
      refine RunOk.pure hs fun cf t hp k hk => ?_
      refine ⟨.f f (cap.toList.map fun x => oV (compO x) t), fun k' => by show evalsK _ t _ = _; rw [evalsK_ok], fun ρ a A w w0 R => ?_⟩
      refine ⟨.func (.func f) #[] (cap.map a.eval), ?_, _, rfl, ?_⟩
      · unfold execOp
        rw [h]
        have hf' : first = #[] := by apply Array.ext'; simpa using hf
        subst hf'
        simp only [Array.map_empty]
        rfl
      · have := ORel.list (os := cap.toList) fun x hx => A x (by rw [h]; simp [Op.operands]; exact .inr (by simpa using hx))
        simpa using this
    · exact no_ok P o
  · exact no_ok P o
theorem ext_ok (P : Program) (o : Oper) (f : FuncId) (fn : Func) (hf : P.funcs.toList[f]? = some fn) (hb : fn.body = none) (x : Operand) (args : Array Operand) (tys : Array TypeId) (ha : args.toList = [x]) (hn : fn.name = "internal/abi.NoEscape") (ho : fn.origin = "")
    (h : o.op = .call ⟨.value (.func f), args, tys⟩) : RunOk P o (doMove (compO x)) := by
  have hs : still P o.op = false := by rw [h]; rfl
  refine RunOk.pure hs fun cf t hp k hk => ?_
  simp only [doMove, oK_eq] at hk
  refine ⟨oV (compO x) t, fun k' => by simp only [doMove, oK_eq], fun ρ a A w w0 R => ?_⟩
  have mx : x ∈ o.op.operands.toList := by rw [h]; simp [Op.operands, Call.operands, ← Array.mem_toList_iff, ha]
  refine ⟨a.eval x, ?_, A x mx⟩
  have hf' : P.funcs[f]? = some fn := by simpa using hf
  have e1 : Extern.findNext fn = none := by
    unfold Extern.findNext
    simp only [hn, ho]
    rfl
  have e2 : Extern.find fn = some Extern.AbiNoEscape.same := by
    unfold Extern.find
    simp only [hn, ho]
    rfl
  have hc := run_callFunc_extern (P := P) hf' (by rw [hn]; decide) (by rw [hb]; rfl) e1 e2 (args.map a.eval) w
  unfold execOp
  rw [h]
  simp only [Sem.run_bind, run_resolve_value P w a.eval f args tys o.type rfl, Result.andThen_ok, invoke]
  rw [show ((#[] ++ args.map a.eval) ++ #[] : Array Value) = args.map a.eval by simp]
  rw [hc]
  have ea : args.map a.eval = #[a.eval x] := by apply Array.ext'; simp [ha]
  rw [ea, Lib.run_noEscape]
  rfl
def cmpI (e l : Bool) : Int := if e then 0 else if l then -1 else 1
theorem fC_eq (e l : Bool) (k : V → Bool) : fC e l k = k (.i .i64 (cmpI e l)) := by cases e <;> cases l <;> rfl
theorem cmpB_eq : ∀ a b : List UInt8, Lib.compareBytes a b = cmpI (decide (a = b)) (Op.bytesLess a b)
  | [], [] => rfl
  | [], _ :: _ => rfl
  | _ :: _, [] => rfl
  | x :: a, y :: b => by
    have ih := cmpB_eq a b
    unfold Lib.compareBytes Op.bytesLess
    by_cases hxy : x = y
    · subst hxy
      have hlt : ¬ x < x := UInt8.lt_irrefl x
      rw [if_neg hlt, if_neg hlt, ih]
      simp [hlt]
    · by_cases hlt : x < y
      · rw [if_pos hlt]; simp [cmpI, hxy, hlt]
      · have h2 : y < x := UInt8.lt_of_le_of_ne (UInt8.not_lt.1 hlt) (Ne.symm hxy)
        rw [if_neg hlt, if_pos h2]; simp [cmpI, hxy, hlt]
theorem cmpS_ok (P : Program) (o : Oper) (f : FuncId) (fn : Func) (hf : P.funcs.toList[f]? = some fn) (hb : fn.body = none) (x y : Operand) (args : Array Operand) (tys : Array TypeId) (ha : args.toList = [x, y]) (hn : fn.name = "internal/bytealg.abigen_runtime_cmpstring") (ho : fn.origin = "")
    (h : o.op = .call ⟨.value (.func f), args, tys⟩) : RunOk P o (doCmpS (compO x) (compO y)) := by
  have hs : still P o.op = false := by rw [h]; rfl
  refine RunOk.pure hs fun cf t hp k hk => ?_
  simp only [doCmpS, oE_eq] at hk
  obtain ⟨la, na, hxa, hk2⟩ := vS_ok hk
  obtain ⟨lb, nb, hyb, hk3⟩ := vS_ok hk2
  refine ⟨.i .i64 (cmpI (eqS la na lb nb) (ltS la na lb nb)), fun k' => by simp only [doCmpS, oE_eq, hxa, vS_s, hyb, fC_eq], fun ρ a A w w0 R => ?_⟩
  have mx : x ∈ o.op.operands.toList := by rw [h]; simp [Op.operands, Call.operands, ← Array.mem_toList_iff, ha]
  have my : y ∈ o.op.operands.toList := by rw [h]; simp [Op.operands, Call.operands, ← Array.mem_toList_iff, ha]
  have hx := A x mx
  rw [hxa] at hx
  obtain ⟨bx, ex, lx, px, sx⟩ := srel hx
  have hy := A y my
  rw [hyb] at hy
  obtain ⟨by', ey, ly, py, sy⟩ := srel hy
  refine ⟨.int .i64 (cmpI (eqS la na lb nb) (ltS la na lb nb)), ?_, rfl⟩
  have hf' : P.funcs[f]? = some fn := by simpa using hf
  have e1 : Extern.findNext fn = none := by
    unfold Extern.findNext
    simp only [hn, ho]
    rfl
  have e2 : Extern.find fn = some Extern.BytealgCompare.compare := by
    unfold Extern.find
    simp only [hn, ho]
    rfl
  have hc := run_callFunc_extern (P := P) hf' (by rw [hn]; decide) (by rw [hb]; rfl) e1 e2 (args.map a.eval) w
  unfold execOp
  rw [h]
  simp only [Sem.run_bind, run_resolve_value P w a.eval f args tys o.type rfl, Result.andThen_ok, invoke]
  rw [show ((#[] ++ args.map a.eval) ++ #[] : Array Value) = args.map a.eval by simp]
  rw [hc]
  have ea : args.map a.eval = #[.string bx, .string by'] := by apply Array.ext'; simp [ha, ex, ey]
  rw [ea, Lib.run_compareString, cmpB_eq, bytesLess_pk, lx, px, ly, py]
  have e3 : decide (bx.data.toList = by'.data.toList) = eqS la na lb nb := by
    have h3 := pk_eq bx.data.toList by'.data.toList
    rw [lx, px, ly, py] at h3
    show _ = (Nat.beq la lb && Nat.beq na nb)
    rw [← h3]
    by_cases h4 : bx.data.toList = by'.data.toList
    · rw [h4]; simp
    · rw [decide_eq_false h4]; exact (beq_eq_false_iff_ne.2 h4).symm
  rw [e3]
  rfl
end Go.Ev

set_option linter.all false
namespace Go.Ev
open Go
/-- the world, with another count of draws -/
def dr (w : World) (d : Nat) : World := { w with drawn := d }
theorem HRel.dr {ρ : Emb} {h : H} {w w0 : World} (R : HRel ρ h w w0) (d : Nat) : HRel ρ h (dr w d) w0 :=
  ⟨R.loc, R.ids, R.sep, R.flo, R.old, R.up, R.tp, R.os, R.out, R.siz, R.mp, R.ito⟩
theorem growBy_le (n : Nat) : ∀ (r c : Nat), Builtin.growBy n r c ≤ max c (n + (n + 768) / 4)
  | 0, c => Nat.le_max_left _ _
  | r + 1, c => by
    unfold Builtin.growBy
    split
    · exact Nat.le_max_left _ _
    · have := growBy_le n r (c + (c + 768) / 4)
      omega
theorem nextcap_le (need cap : Nat) (h : cap < need) : Builtin.nextslicecap need cap ≤ 2 * need + 192 := by
  unfold Builtin.nextslicecap
  split
  · omega
  · split
    · omega
    · have := growBy_le need 4 cap
      omega
theorem run_append_in (P : Program) (w w2 : World) (t t' ty elem e' : TypeId) (i : TypeInfo) (base : Option Addr) (sLen sCap n : Nat) (x : Value) (new : Array Value)
    (hu : P.underlying t = some (.slice elem)) (hu' : P.underlying t' = some (.slice e') ∨ P.underlying t' = some .string) (hi : P.info? elem = some i) (hl : (Builtin.lenOf x).run P w = .ok n w)
    (hc : sLen + n ≤ sCap) (hnew : (Builtin.firstCells i.size n x).run P w = .ok new w)
    (hst : ∀ a, base = some a → (storeCells (a.add (sLen * i.size)) new.toList).run P w = .ok () w2) (hno : base = none → w2 = w) :
    (Builtin.append_ #[t, t'] ty #[.slice base sLen sCap, x]).run P w = .ok (.slice base (sLen + n) sCap) w2 := by
  unfold Builtin.append_
  rcases hu' with hu' | hu' <;> simp only [List.getElem?_toArray, List.getElem?_cons_zero, List.getElem?_cons_succ, Sem.run_bind, run_underlying hu, run_underlying hu', Result.andThen_ok, run_sizeOf' hi, Sem.run_pure', Bool.false_eq_true, if_false, hl, Bool.not_false, if_true, hc, hnew]
  all_goals cases base with
  | none => rw [hno rfl]; rfl
  | some a => simp only [Sem.run_bind, hst a rfl, Result.andThen_ok]; rfl
theorem run_append_out (P : Program) (w : World) (t t' ty elem e' : TypeId) (i : TypeInfo) (zv : Value) (base : Option Addr) (sLen sCap n : Nat) (x : Value) (old new : Array Value)
    (hu : P.underlying t = some (.slice elem)) (hu' : P.underlying t' = some (.slice e') ∨ P.underlying t' = some .string) (hi : P.info? elem = some i) (hz : i.zero = some zv) (hl : (Builtin.lenOf x).run P w = .ok n w)
    (hc : ¬ sLen + n ≤ sCap) (hb : sLen + n ≤ 1048576) (hby : i.bytes ≤ 65536)
    (hold : (Builtin.firstCells i.size sLen (.slice base sLen sCap)).run P (dr w (w.drawn + 1)) = .ok old (dr w (w.drawn + 1)))
    (hnew : (Builtin.firstCells i.size n x).run P (dr w (w.drawn + 1)) = .ok new (dr w (w.drawn + 1))) :
    ∃ newCap, sLen + n ≤ newCap ∧ (Builtin.append_ #[t, t'] ty #[.slice base sLen sCap, x]).run P w =
      .ok (.slice (some ⟨w.heap.size, 0, none⟩) (sLen + n) newCap) ((dr w (w.drawn + 1)).alloc (.cells (old ++ new ++ Builtin.zeroCells zv.cells (newCap - (sLen + n))) elem)) := by
  refine ⟨(Question.appendCap (sLen + n) sCap elem).cut (w.tape w.drawn (Question.appendCap (sLen + n) sCap elem)), by simp [Question.cut], ?_⟩
  unfold Builtin.append_
  rcases hu' with hu' | hu' <;> simp only [List.getElem?_toArray, List.getElem?_cons_zero, List.getElem?_cons_succ, Sem.run_bind, run_underlying hu, run_underlying hu', Result.andThen_ok, run_sizeOf' hi, Sem.run_pure', Bool.false_eq_true, if_false, hl, Bool.not_false, if_true, hc,
    run_typeInfo' hi]
  all_goals
    have h1 : ¬ ((sLen + n : Nat) : Int) > IntKind.i64.max := by
      have : IntKind.i64.max = 9223372036854775807 := by decide
      omega
    have h2 : ¬ Builtin.nextslicecap (sLen + n) sCap * i.bytes > 2 ^ 48 := by
      have := nextcap_le (sLen + n) sCap (by omega)
      have h3 := Nat.mul_le_mul (show Builtin.nextslicecap (sLen + n) sCap ≤ 2097344 by omega) hby
      omega
    rw [if_neg (by rintro ⟨h, _⟩; exact h1 h)]
    simp only [Sem.run_bind, run_typeInfo' hi, Result.andThen_ok]
    rw [if_neg h2]
    have hch : (choose (Question.appendCap (sLen + n) sCap elem)).run P w = .ok ((Question.appendCap (sLen + n) sCap elem).cut (w.tape w.drawn (Question.appendCap (sLen + n) sCap elem))) (dr w (w.drawn + 1)) := rfl
    simp only [Sem.run_bind, hch, Result.andThen_ok]
    have hroom : ∀ b, (askRoom b).run P (dr w (w.drawn + 1)) = .ok () (dr w (w.drawn + 1)) := by
      intro b; unfold askRoom; split <;> rfl
    simp only [run_typeInfo' hi, hroom, Result.andThen_ok, hold, hnew, run_zero' hi hz]
    rfl
theorem newCells_ok {size : Nat} {x : V} {h : H} {k : Nat → List V → Bool} (hk : newCells size x h k = true) :
    ∃ n vs, (∀ k', newCells size x h k' = k' n vs) ∧ vs.length = n * size ∧ ∀ ρ xv, VRel ρ x xv → (∀ (P : Program) w, (Builtin.lenOf xv).run P w = .ok n w) ∧
      ∀ w w0, HRel ρ h w w0 → ∃ new : Array Value, LRel ρ vs new.toList ∧ ∀ (P : Program), (Builtin.firstCells size n xv).run P w = .ok new w := by
  rcases vL_ok hk with ⟨hv, hk⟩ | ⟨id, g, off, len, fin, cap, hv, hk⟩
  · subst hv
    refine ⟨0, [], fun k' => rfl, by simp, fun ρ xv hx => ?_⟩
    have hx' : xv = .slice none 0 0 := hx
    subst hx'
    exact ⟨fun P w => rfl, fun w w0 R => ⟨#[], trivial, fun P => rfl⟩⟩
  · subst hv
    cases len with
    | zero =>
      refine ⟨0, [], fun k' => rfl, by simp, fun ρ xv hx => ?_⟩
      obtain ⟨L, ad, c, l1, rfl, lc, l3, l4, l5, l6, l7⟩ := hx
      exact ⟨fun P w => rfl, fun w w0 R => ⟨#[], trivial, fun P => by unfold Builtin.firstCells; rw [Nat.zero_mul]; rfl⟩⟩
    | succ len =>
    have hk : loadN h id g off fin (Nat.mul (len + 1) size) (fun vs => k (len + 1) vs) = true := hk
    obtain ⟨vs, h1, h2, h3⟩ := loadN_ok hk
    refine ⟨len + 1, vs, fun k' => by show loadN h id g off fin (Nat.mul (len + 1) size) (fun vs => k' (len + 1) vs) = _; rw [h1], h2, fun ρ xv hx => ?_⟩
    obtain ⟨L, ad, c, l1, rfl, lc, l3, l4, l5, l6, l7⟩ := hx
    refine ⟨fun P w => rfl, fun w w0 R => ?_⟩
    obtain ⟨xs, x1, x2, x3⟩ := h3 ρ w w0 L R l1 l3 l4
    rcases l5 with ⟨h0, _⟩ | rfl
    · omega
    · exact ⟨xs.toArray, by simpa using x1, fun P => by unfold Builtin.firstCells; exact x2 P⟩
theorem newCellsS_ok {x : V} {k : Nat → List V → Bool} (hk : newCellsS x k = true) :
    ∃ n vs, (∀ k', newCellsS x k' = k' n vs) ∧ vs.length = n * 1 ∧ ∀ ρ xv, VRel ρ x xv → (∀ (P : Program) w, (Builtin.lenOf xv).run P w = .ok n w) ∧
      ∃ new : Array Value, LRel ρ vs new.toList ∧ ∀ (P : Program) (w : World), (Builtin.firstCells 1 n xv).run P w = .ok new w := by
  obtain ⟨l, n, rfl, hk2⟩ := vS_ok hk
  refine ⟨l, unp l n [], fun k' => by simp only [newCellsS, vS_s, unpK_eq], by simp [unp_length], fun ρ xv hx => ?_⟩
  obtain ⟨bs, rfl, e1, e2, e3⟩ := srel hx
  refine ⟨fun P w => by rw [← e3]; rfl, ((bs.extract 0 l).data.map fun b => .int .u8 b.toNat), ?_, fun P w => rfl⟩
  have e4 : (bs.extract 0 l).data.toList = bs.data.toList := by
    rw [ByteArray.data_extract, Array.toList_extract, List.extract_eq_take_drop]
    rw [List.drop_zero, List.take_of_length_le (by omega)]
  rw [← e2, unp_pk l bs.data.toList [] e1, List.append_nil, Array.toList_map, e4]
  exact bytes_rel ρ _
/-- 'append' over which the walk goes: what it makes of the slice and the new cells -/
def AppSound (P : Program) (t t' ty elem : TypeId) (s x : V) (h : H) (v : V) (h' : H) : Prop :=
  ∀ ρ w w0 sv xv, HRel ρ h w w0 → VRel ρ s sv → VRel ρ x xv → ∃ y w', (Builtin.append_ #[t, t'] ty #[sv, xv]).run P w = .ok y w' ∧ Done h.floor ρ w0 v h' y w'
theorem sub_lt_of {p s off m : Nat} (h : p < off + m) (hs : s ≤ off) (hp : s ≤ p) : p - s < off - s + m := by omega
theorem arith3 {off s m fin p : Nat} (h1 : off + m = fin) (h2 : s ≤ off) (h3 : fin ≤ p) : off - s + m + (p - fin) = p - s := by omega
theorem arith4 {off s p : Nat} (h : s ≤ off) (h2 : off ≤ p) : off - s + (p - off) = p - s := by omega
theorem sub_lt_two {p f n : Nat} (h : p < f + n) (h2 : f ≤ p) : p - f < n := by omega
theorem grow_old {cur min min' g' fin sz : Nat} (h : (fin = sz ∧ min' = min) ∨ min' = cur + 1) (hg : g' ≤ cur) (hm : min' ≤ g') : fin = sz ∧ min ≤ g' := by omega
theorem grow_or {cur min min' g' fin sz : Nat} (h : (fin = sz ∧ min' = min) ∨ min' = cur + 1) (hg : min ≤ cur) (hm : min' ≤ g' ∨ cur + 1 < min') : min' ≤ g' := by omega
theorem zeroCells_size (z : Array Value) (n : Nat) : (Builtin.zeroCells z n).size = n * z.size := by simp [Builtin.zeroCells]
section
variable {P : Program} {t t' ty elem e' : TypeId} {i : TypeInfo}
variable (hu : P.underlying t = some (.slice elem)) (hu' : P.underlying t' = some (.slice e') ∨ P.underlying t' = some .string) (hi : P.info? elem = some i) (hz : (zeroOf i.zero).length = i.size) (hs1 : 1 ≤ i.size) (hby : i.bytes ≤ 65536)
include hu hu' hi hz hs1 hby
omit hu hu' hi hz hs1 hby in
theorem natC_ok {n : Nat} {z : Unit → Bool} {k : Nat → Bool} (h : natC n z k = true) : (n = 0 ∧ z () = true) ∨ (∃ m, n = m + 1 ∧ k n = true) := by
  cases n with
  | zero => exact .inl ⟨rfl, h⟩
  | succ m => exact .inr ⟨m, rfl, h⟩
omit hu hu' hi hz hs1 hby in
@[simp] theorem natC_zero (z : Unit → Bool) (k : Nat → Bool) : natC 0 z k = z () := rfl
omit hu hu' hi hz hs1 hby in
@[simp] theorem natC_succ (n : Nat) (z : Unit → Bool) (k : Nat → Bool) : natC (n + 1) z k = k (n + 1) := rfl
theorem appNil_ok {x : V} {n : Nat} {vs : List V} {h : H} {k : V → H → Bool} (hk : appNil elem n vs h k = true) (hlen : vs.length = n * i.size)
    (hx : ∀ ρ xv, VRel ρ x xv → (∀ (P : Program) w, (Builtin.lenOf xv).run P w = .ok n w) ∧ ∀ w w0, HRel ρ h w w0 → ∃ new : Array Value, LRel ρ vs new.toList ∧ ∀ (P : Program), (Builtin.firstCells i.size n xv).run P w = .ok new w) :
    ∃ v h', (∀ k', appNil elem n vs h k' = k' v h') ∧ KeepF h h' ∧ B.val h.next ≤ B.val h'.next ∧ AppSound P t t' ty elem .l0 x h v h' := by
  cases n with
  | zero =>
    refine ⟨.l0, h, fun k' => rfl, KeepF.refl h, Nat.le_refl _, fun ρ w w0 sv xv R hsv hxv => ?_⟩
    have hsv' : sv = .slice none 0 0 := hsv
    subst hsv'
    obtain ⟨x1, x2⟩ := hx ρ xv hxv
    obtain ⟨new, n1, n2⟩ := x2 w w0 R
    exact ⟨_, _, run_append_in P w w t t' ty elem e' i none 0 0 0 xv new hu hu' hi (x1 P w) (Nat.le_refl _) (n2 P) (fun a ha => by cases ha) (fun _ => rfl), ρ, Ext.refl _ ρ, rfl, R⟩
  | succ m =>
    simp only [appNil, natC_succ] at hk
    obtain ⟨hb, hk⟩ := ifK_ok hk
    obtain ⟨h', g1, g2, g3, g4⟩ := alloc_ok hk
    have hb' : m + 1 ≤ 1048576 := Nat.le_of_ble_eq_true hb
    refine ⟨.l h.next 0 0 (m + 1) vs.length none, h', fun k' => by simp only [appNil, natC_succ, hb, ifK_true, g1], g2, g3, fun ρ w w0 sv xv R hsv hxv => ?_⟩
    have hsv' : sv = .slice none 0 0 := hsv
    subst hsv'
    obtain ⟨x1, x2⟩ := hx ρ xv hxv
    obtain ⟨new, n1, n2⟩ := x2 (dr w (w.drawn + 1)) w0 (R.dr _)
    obtain ⟨zv, z1, z2⟩ := zero_rel (ρ := ρ) (z := i.zero) (by omega)
    obtain ⟨nc, c1, c2⟩ := run_append_out P w t t' ty elem e' i zv none 0 0 (m + 1) xv #[] new hu hu' hi z1 (x1 P w) (by omega) (by omega) hby rfl (n2 P)
    have nl := n1.length
    have zl := z2.length
    simp at nl zl
    obtain ⟨ρ', e1, e2, e3⟩ := g4 ρ (dr w (w.drawn + 1)) w0 (#[] ++ new ++ Builtin.zeroCells zv.cells (nc - (0 + (m + 1)))) 0 _ (R.dr _) (by simp; omega) rfl
      (fun j v y hv hy => by
        obtain ⟨q, d1, d2⟩ := n1.get hv
        have hj : j < new.size := by have := (List.getElem?_eq_some_iff.1 d1).1; simpa using this
        have : some q = some y := by
          rw [← d1, ← hy, Array.getElem?_toList, Array.getElem?_append_left (by simpa using hj)]; simp
        cases this; exact d2) rfl
    refine ⟨_, _, c2, ρ', e1, ⟨_, _, _, e2, by rw [Nat.zero_add]; rfl, by omega, Nat.zero_le _, Nat.le_refl _, .inr rfl, (fun d hd => by cases hd), fun _ => .inr ⟨i.size, hs1, by simp [hlen], ?_⟩⟩, e3⟩
    refine ⟨?_, fun d hd => by cases hd⟩
    show 0 - 0 + nc * i.size ≤ (#[] ++ new ++ Builtin.zeroCells zv.cells (nc - (0 + (m + 1)))).size
    simp only [Array.size_append, zeroCells_size]
    have : (nc - (0 + (m + 1))) * zv.cells.size = nc * i.size - (m + 1) * i.size := by
      rw [show zv.cells.size = i.size by omega, Nat.zero_add, Nat.sub_mul]
    have h5 : (m + 1) * i.size ≤ nc * i.size := Nat.mul_le_mul_right _ (by omega)
    rw [this, ← nl, hlen]
    simp; omega
theorem appOut_ok {x : V} {id : B} {g off len fin n c : Nat} {vs : List V} {h : H} {k : V → H → Bool} (hcM : c < 18446744073709551616) (hk : appOut elem id g off len fin i.size n vs h k = true) (hcap : ¬ len + n ≤ c) (hlen : vs.length = n * i.size)
    (hx : ∀ ρ xv, VRel ρ x xv → (∀ (P : Program) w, (Builtin.lenOf xv).run P w = .ok n w) ∧ ∀ w w0, HRel ρ h w w0 → ∃ new : Array Value, LRel ρ vs new.toList ∧ ∀ (P : Program), (Builtin.firstCells i.size n xv).run P w = .ok new w) :
    ∃ v h', (∀ k', appOut elem id g off len fin i.size n vs h k' = k' v h') ∧ KeepF h h' ∧ B.val h.next ≤ B.val h'.next ∧ AppSound P t t' ty elem (.l id g off len fin (some c)) x h v h' := by
  simp only [appOut] at hk
  obtain ⟨hb, hk⟩ := ifK_ok hk
  obtain ⟨old, o1, o2, o3⟩ := loadZ_ok (fun h => by rw [h]; exact Nat.zero_mul _) hk
  rw [o1] at hk
  obtain ⟨h', g1, g2, g3, g4⟩ := alloc_ok hk
  have hb' : len + n ≤ 1048576 := Nat.le_of_ble_eq_true hb
  refine ⟨.l h.next 0 0 (len + n) ((len + n) * i.size) none, h', fun k' => by simp only [appOut, hb, ifK_true, o1, g1, fN_eq]; rfl, g2, g3, fun ρ w w0 sv xv R hsv hxv => ?_⟩
  obtain ⟨L, ad, cc, l1, rfl, lc, l3, l4, l5, l6, l7⟩ := hsv
  have hcc : cc = c := l6 c rfl hcM
  subst hcc
  obtain ⟨x1, x2⟩ := hx ρ xv hxv
  obtain ⟨new, n1, n2⟩ := x2 (dr w (w.drawn + 1)) w0 (R.dr _)
  obtain ⟨zv, z1, z2⟩ := zero_rel (ρ := ρ) (z := i.zero) (by omega)
  obtain ⟨xs, y1, y2, y3⟩ := o3 ρ (dr w (w.drawn + 1)) w0 L (R.dr _) l1 l3 l4
  have hold : ∃ oa : Array Value, LRel ρ old oa.toList ∧ (Builtin.firstCells i.size len (.slice (some ad) len cc)).run P (dr w (w.drawn + 1)) = .ok oa (dr w (w.drawn + 1)) := by
    rcases l5 with ⟨rfl, _⟩ | rfl
    · refine ⟨#[], ?_, ?_⟩
      · have : old = [] := by
          apply List.eq_nil_of_length_eq_zero
          rw [o2]; exact Nat.zero_mul _
        subst this; trivial
      · unfold Builtin.firstCells; rw [Nat.zero_mul]; rfl
    · exact ⟨xs.toArray, by simpa using y1, by unfold Builtin.firstCells; exact y2 P⟩
  obtain ⟨oa, oa1, oa2⟩ := hold
  obtain ⟨nc, c1, c2⟩ := run_append_out P w t t' ty elem e' i zv (some ad) len cc n xv oa new hu hu' hi z1 (x1 P w) hcap hb' hby oa2 (n2 P)
  have nl := n1.length
  have zl := z2.length
  have ol := oa1.length
  have o2' : old.length = len * i.size := o2
  simp at nl zl ol
  have happ : LRel ρ (app old vs) (oa ++ new).toList := by
    rw [app_eq]; simpa using oa1.append n1
  have hal : (app old vs).length = (len + n) * i.size := by rw [app_eq, List.length_append, o2', hlen, Nat.add_mul]
  have hal2 := happ.length
  simp at hal2
  obtain ⟨ρ', e1, e2, e3⟩ := g4 ρ (dr w (w.drawn + 1)) w0 (oa ++ new ++ Builtin.zeroCells zv.cells (nc - (len + n))) 0 _ (R.dr _) (by simp; omega) rfl
    (fun j v y hv hy => by
      obtain ⟨q, d1, d2⟩ := happ.get hv
      have hj : j < (oa ++ new).size := by have := (List.getElem?_eq_some_iff.1 d1).1; simpa using this
      have : some q = some y := by
        rw [← d1, ← hy, Array.getElem?_toList, Array.getElem?_append_left hj]
      cases this; exact d2) rfl
  refine ⟨_, _, c2, ρ', e1, ⟨_, _, _, e2, rfl, c1, Nat.zero_le _, by rw [hal]; exact Nat.le_refl _, .inr rfl, (fun d hd => by cases hd), fun _ => .inr ⟨i.size, hs1, by simp, ?_⟩⟩, e3⟩
  refine ⟨?_, fun d hd => by cases hd⟩
  show 0 - 0 + nc * i.size ≤ (oa ++ new ++ Builtin.zeroCells zv.cells (nc - (len + n))).size
  simp only [Array.size_append, zeroCells_size]
  have h6 : (nc - (len + n)) * zv.cells.size = nc * i.size - (len + n) * i.size := by
    rw [show zv.cells.size = i.size by omega, Nat.sub_mul]
  have h5 : (len + n) * i.size ≤ nc * i.size := Nat.mul_le_mul_right _ (by omega)
  rw [h6]
  have h7 : (len + n) * i.size = len * i.size + n * i.size := Nat.add_mul _ _ _
  omega
theorem appIn_ok {x : V} {id : B} {g off len fin n c : Nat} {vs : List V} {h : H} {k : V → H → Bool} (hcM : c < 18446744073709551616) (hk : appIn id g off len fin c i.size n vs h k = true) (hcap : len + n ≤ c) (hlen : vs.length = n * i.size)
    (hx : ∀ ρ xv, VRel ρ x xv → (∀ (P : Program) w, (Builtin.lenOf xv).run P w = .ok n w) ∧ ∀ w w0, HRel ρ h w w0 → ∃ new : Array Value, LRel ρ vs new.toList ∧ ∀ (P : Program), (Builtin.firstCells i.size n xv).run P w = .ok new w) :
    ∃ v h', (∀ k', appIn id g off len fin c i.size n vs h k' = k' v h') ∧ KeepF h h' ∧ B.val h.next ≤ B.val h'.next ∧ AppSound P t t' ty elem (.l id g off len fin (some c)) x h v h' := by
  cases n with
  | zero =>
    refine ⟨.l id g off len fin (some c), h, fun k' => rfl, KeepF.refl h, Nat.le_refl _, fun ρ w w0 sv xv R hsv hxv => ?_⟩
    have hsv0 := hsv
    obtain ⟨L, ad, cc, l1, rfl, lc, l3, l4, l5, l6, l7⟩ := hsv
    have hcc : cc = c := l6 c rfl hcM
    subst hcc
    obtain ⟨x1, x2⟩ := hx ρ xv hxv
    obtain ⟨new, n1, n2⟩ := x2 w w0 R
    have : new = #[] := by
      have := n1.length
      rw [hlen] at this
      apply Array.eq_empty_of_size_eq_zero
      simpa using this.symm
    subst this
    exact ⟨_, _, run_append_in P w w t t' ty elem e' i (some ad) len cc 0 xv #[] hu hu' hi (x1 P w) hcap (n2 P) (fun a ha => rfl) (fun _ => rfl), ρ, Ext.refl _ ρ, hsv0, R⟩
  | succ m =>
    simp only [appIn, natC_succ] at hk
    obtain ⟨h', g1, g2, g3, g4⟩ := store_ok hk
    refine ⟨.l id g off (len + (m + 1)) fin (some c), h', fun k' => by simp only [appIn, natC_succ, g1, fN_eq]; rfl, g2, by rw [g3]; exact Nat.le_refl _, fun ρ w w0 sv xv R hsv hxv => ?_⟩
    obtain ⟨L, ad, cc, l1, rfl, lc, l3, l4, l5, l6, l7⟩ := hsv
    have hcc : cc = c := l6 c rfl hcM
    subst hcc
    obtain ⟨x1, x2⟩ := hx ρ xv hxv
    obtain ⟨new, n1, n2⟩ := x2 w w0 R
    have hadr : ad = ⟨L.b, off - L.s, none⟩ := by
      rcases l5 with ⟨h0, h1⟩ | h1
      · rcases h1 with h1 | h1
        · cases h1
        · cases h1; omega
      · exact h1
    subst hadr
    obtain ⟨s1, s2⟩ := g4 ρ w w0 L _ R l1 (by exact Nat.le_add_right_of_le l3) l4 n1
    have e5 : Nat.add off (Nat.mul len i.size) - L.s = off - L.s + len * i.size := by
      show off + len * i.size - L.s = _
      omega
    rw [e5] at s1 s2
    exact ⟨_, _, run_append_in P w _ t t' ty elem e' i (some ⟨L.b, off - L.s, none⟩) len cc (m + 1) xv new hu hu' hi (x1 P w) hcap (n2 P) (fun a ha => by cases ha; rw [add_none]; exact s1 P) (fun hn => by cases hn), ρ, Ext.refl _ ρ,
      ⟨L, _, _, l1, rfl, hcap, l3, l4, .inr rfl, (fun d hd _ => by cases hd; rfl), (fun hd => absurd hd (Unk.no hcM))⟩, s2⟩
theorem appGrow_ok {x : V} {id : B} {g off len fin n : Nat} {cap : Option Nat} {z : Bool} {vs : List V} {h : H} {k : V → H → Bool} (hcap : Unk cap) (hzz : z = true → len = 0 → cap = some (18446744073709551615 + i.size)) (hk : appGrow z elem id g off len fin i.size n vs h k = true) (hlen : vs.length = n * i.size)
    (hx : ∀ ρ xv, VRel ρ x xv → (∀ (P : Program) w, (Builtin.lenOf xv).run P w = .ok n w) ∧ ∀ w w0, HRel ρ h w w0 → ∃ new : Array Value, LRel ρ vs new.toList ∧ ∀ (P : Program), (Builtin.firstCells i.size n xv).run P w = .ok new w) :
    ∃ v h', (∀ k', appGrow z elem id g off len fin i.size n vs h k' = k' v h') ∧ KeepF h h' ∧ B.val h.next ≤ B.val h'.next ∧ AppSound P t t' ty elem (.l id g off len fin cap) x h v h' := by
  obtain ⟨next, floor, heap⟩ := h
  have e : ∀ k', appGrow z elem id g off len fin i.size n vs ⟨next, floor, heap⟩ k' = optK (heap.get id) fun blk => blkK blk fun cur min sz cells el fr =>
    ifK (Nat.ble min g) fun _ => ifK (B.geB floor id) fun _ => ifK (Nat.ble (Nat.add off (Nat.mul len i.size)) sz) fun _ => ifK (Nat.beq fin (Nat.add off (Nat.mul len i.size))) fun _ => ifK z fun _ => ifK (Nat.ble (Nat.add len n) 1048576) fun _ => ifK (allOne vs) fun _ => ifK (frOk fr (Nat.add off (Nat.mul len i.size))) fun _ => ifK (Nat.beq el elem) fun _ =>
       setList vs (Nat.add off (Nat.mul len i.size)) cells fun t => T.setK id ⟨Nat.succ cur, selN (Nat.beq (Nat.add off (Nat.mul len i.size)) sz) min (Nat.succ cur), Nat.add (Nat.add off (Nat.mul len i.size)) (Nat.mul n i.size), t, el, fr⟩ heap fun heap => k' (.l id (Nat.succ cur) off (Nat.add len n) (Nat.add (Nat.add off (Nat.mul len i.size)) (Nat.mul n i.size)) (capZ i.size (Nat.add len n))) ⟨next, floor, heap⟩ := by
    intro k'; simp only [appGrow, hK_mk, fN_eq]
  rw [e] at hk
  obtain ⟨⟨cur, min, sz, cells, bel, fr⟩, hb, hk⟩ := optK_ok hk
  simp only [blkK_mk] at hk
  obtain ⟨hmg, hk⟩ := ifK_ok hk
  obtain ⟨hfl, hk⟩ := ifK_ok hk
  obtain ⟨hsz, hk⟩ := ifK_ok hk
  obtain ⟨hfn, hk⟩ := ifK_ok hk
  obtain ⟨hzt, hk⟩ := ifK_ok hk
  obtain ⟨hbd, hk⟩ := ifK_ok hk
  obtain ⟨hone, hk⟩ := ifK_ok hk
  obtain ⟨hfr, hk⟩ := ifK_ok hk
  obtain ⟨hel, hk⟩ := ifK_ok hk
  obtain ⟨tr, h1, h2, h3⟩ := setList_ok _ _ _ _ hk
  have hfn' : fin = off + len * i.size := Nat.eq_of_beq_eq_true hfn
  have hmn : ∃ min', selN (Nat.beq (Nat.add off (Nat.mul len i.size)) sz) min (Nat.succ cur) = min' ∧ ((fin = sz ∧ min' = min) ∨ min' = cur + 1) := by
    refine ⟨_, rfl, ?_⟩
    cases hb : Nat.beq (Nat.add off (Nat.mul len i.size)) sz with
    | true => exact .inl ⟨hfn'.trans (Nat.eq_of_beq_eq_true hb), rfl⟩
    | false => exact .inr rfl
  obtain ⟨min', hmin, hmin2⟩ := hmn
  rw [hmin] at hk
  obtain ⟨hp, h4, h5, h6⟩ := setK_ok id (⟨cur + 1, min', fin + n * i.size, tr, bel, fr⟩ : Blk) heap
  have hpp : Nat.add off (Nat.mul len i.size) = fin := hfn'.symm
  rw [hpp] at h1 h2 h3 hfr hsz
  refine ⟨.l id (cur + 1) off (len + n) (fin + n * i.size) (capZ i.size (len + n)), ⟨next, floor, hp⟩, fun k' => by rw [e, hb, optK_some, blkK_mk, hmin]; simp only [hpp]; rw [hmg, hfl, hsz, Nat.beq_refl, hzt, hbd, hone, hfr, hel]; simp only [ifK_true]; rw [h1]; exact h4 _, ⟨rfl, fun hf i hi => h6 i (fun e => by rw [e] at hi; exact absurd (geB_ok hfl) (Nat.not_le.2 hi))⟩, Nat.le_refl _, fun ρ w w0 sv xv R hsv hxv => ?_⟩
  have hsz0 : fin ≤ sz := Nat.le_of_ble_eq_true hsz
  have hsz' : off + len * i.size = fin := hfn'.symm
  have hbd' : len + n ≤ 1048576 := Nat.le_of_ble_eq_true hbd
  have hmg' : min ≤ g := Nat.le_of_ble_eq_true hmg
  have hel' : bel = elem := Nat.eq_of_beq_eq_true hel
  obtain ⟨L, ad, cc, l1, rfl, lc, l3, l4, l5, l6, l7⟩ := hsv
  have hl0 : len = 0 → cap = some (18446744073709551615 + i.size) := hzz hzt
  have hadr : ad = ⟨L.b, off - L.s, none⟩ := by
    rcases l5 with ⟨h0, h1⟩ | h1
    · rcases h1 with h1 | h1
      · rw [hl0 h0] at h1; cases h1
      · rcases hcap with hc | ⟨d, hc, hd⟩
        · rw [hc] at h1; cases h1
        · rw [hc] at h1; cases h1; omega
    · exact h1
  subst hadr
  obtain ⟨q1, q3⟩ : 1 ≤ i.size ∧ off - L.s + cc * i.size ≤ L.cs := by
    refine ⟨hs1, ?_⟩
    rcases l7 hcap with h0 | ⟨q, q1, q2, q3, q4⟩
    · rw [hl0 h0.1] at h0; cases h0.2
    · rcases Nat.eq_zero_or_pos len with h0 | h0
      · have := q4 _ (hl0 h0)
        rw [show i.size = q by omega]; exact q3
      · have hq : q = i.size := by
          have : len * q = len * i.size := by omega
          exact Nat.eq_of_mul_eq_mul_left (by omega) this
        rw [← hq]; exact q3
  obtain ⟨blk, a1, a2, a3, a4, a5, a6, a7⟩ := R.loc _ _ _ l1
  have hbe : blk = ⟨cur, min, sz, cells, bel, fr⟩ := by
    have : heap.get id = some blk := a1
    rw [hb] at this; exact (Option.some.inj this).symm
  subst hbe
  simp only at a2 a5 a6
  have hmg2 : min ≤ cur := Nat.le_trans hmg' a2
  obtain ⟨c, el, b1, b2, b3, b4⟩ := a7 hmg'
  obtain ⟨x1, x2⟩ := hx ρ xv hxv
  have hnone : ρ id (cur + 1) = none := by
    cases hr : ρ id (cur + 1) with
    | none => rfl
    | some M =>
      obtain ⟨blk2, d1, d2, _⟩ := R.loc _ _ _ hr
      have : heap.get id = some blk2 := d1
      rw [hb] at this
      cases this
      simp only at d2
      omega
  by_cases hc : len + n ≤ cc
  · -- in place
    obtain ⟨new, n1, n2⟩ := x2 w w0 R
    have nl := n1.length
    simp at nl
    have hcs : off - L.s + len * i.size + new.size ≤ c.size := by
      have : (len + n) * i.size ≤ cc * i.size := Nat.mul_le_mul_right _ hc
      rw [Nat.add_mul] at this
      omega
    have b1h := b1
    obtain ⟨b1e, fz, b1a, b1f⟩ := b1h
    obtain ⟨c', s1, s2, s3, s4⟩ := heap_setCells L.b new.toList (off - L.s + len * i.size) w c el fz b1a
    have hrun : (storeCells (Addr.add ⟨L.b, off - L.s, none⟩ (len * i.size)) new.toList).run P w = .ok () (w.setCells L.b (off - L.s + len * i.size) new.toList) := by
      rw [add_none]
      have := run_storeCells_cells (P := P) L.b (off - L.s + len * i.size) new.toList 0 w
        (fun j hj => by rw [b1.cell?]; simp at hj; rw [Array.getElem?_eq_getElem (by omega)]; rfl)
        (fun j hj => by
          have hj' : j < new.size := by simpa using hj
          have : w.frozen? ⟨L.b, off - L.s + len * i.size + 0 + j, none⟩ = false := b1.thawed hfr (by omega) (by omega)
          exact this)
        (allOne_ok hone n1)
      simpa using this
    have hle := Emb.put_le (⟨L.b, L.s, fin + n * i.size, L.cs, none⟩ : Loc) hnone
    refine ⟨_, _, run_append_in P w _ t t' ty elem e' i (some ⟨L.b, off - L.s, none⟩) len cc n xv new hu hu' hi (x1 P w) hc (n2 P) (fun a ha => by cases ha; exact hrun) (fun hn => by cases hn),
      ρ.put id (cur + 1) ⟨L.b, L.s, fin + n * i.size, L.cs, none⟩, Ext.put hnone (geB_ok hfl), ⟨_, _, _, Emb.put_same _ _ _ _, rfl, hc, l3, Nat.le_refl _, .inr rfl, (fun d hd hl => absurd hl (capZ_big hs1 hd)), fun _ => .inr ⟨i.size, q1, by rw [Nat.add_mul]; omega, q3, fun d hd => capZ_eq hd⟩⟩, ?_⟩
    have hcase : ∀ {j g' M}, ρ.put id (cur + 1) ⟨L.b, L.s, fin + n * i.size, L.cs, none⟩ j g' = some M → (j = id ∧ g' = cur + 1 ∧ M = ⟨L.b, L.s, fin + n * i.size, L.cs, none⟩) ∨ ρ j g' = some M := by
      intro j g' M hM
      by_cases e : j = id ∧ g' = cur + 1
      · left; obtain ⟨rfl, rfl⟩ := e; rw [Emb.put_same] at hM; exact ⟨rfl, rfl, (Option.some.inj hM).symm⟩
      · right; rwa [Emb.put_other _ _ _ _ e] at hM
    constructor
    · intro j g' M hM
      rcases hcase hM with ⟨e1, e2, e3⟩ | hN
      · subst e1; subst e2; subst e3
        refine ⟨_, h5, Nat.le_refl _, by rw [size_setCells]; exact a3, by show L.s ≤ fin + n * i.size; omega, fun _ => Nat.le_refl _, fun _ => rfl, fun _ => ⟨c', el, ⟨b1e, fz, s1, by rw [s2]; exact b1f⟩, s2.trans b2, by show fin + n * i.size - L.s ≤ L.cs; omega, fun p p1 p2 => ?_⟩⟩
        simp only at p1 p2
        by_cases hpf : p < fin
        · obtain ⟨v, y, f1, f2, f3⟩ := b4 p p1 (Nat.lt_of_lt_of_le hpf l4)
          exact ⟨v, y, (h3 p (.inl hpf)).trans f1, (s3 (p - L.s) (.inl (sub_lt_of (by rw [hsz']; exact hpf) l3 p1))).trans f2, VRel.up hle _ _ f3⟩
        · have hv : vs[p - fin]? = some (vs[p - fin]'(sub_lt_two (by rw [hlen]; exact p2) (Nat.le_of_not_lt hpf))) := by simp
          obtain ⟨y, y1, y2⟩ := n1.get hv
          refine ⟨_, y, ?_, ?_, VRel.up hle _ _ y2⟩
          · have := h2 (p - fin) _ hv
            rwa [Nat.add_sub_of_le (Nat.le_of_not_lt hpf)] at this
          · have hlt : p - fin < vs.length := sub_lt_two (by rw [hlen]; exact p2) (Nat.le_of_not_lt hpf)
            have := s4 (p - fin) y y1 (Nat.lt_of_lt_of_le (Nat.add_lt_add_left hlt _) (by rw [nl]; exact hcs))
            rwa [arith3 hsz' l3 (Nat.le_of_not_lt hpf)] at this
      · obtain ⟨blk2, d1, d2, d3, d4, d5, d6, d7⟩ := R.loc _ _ _ hN
        by_cases hj : j = id
        · subst hj
          have : heap.get j = some blk2 := d1
          rw [hb] at this
          cases this
          simp only at d2 d5 d6 d7
          refine ⟨_, h5, by simp only; omega, by rw [size_setCells]; exact d3, d4, fun hm => by obtain ⟨hfs, hm⟩ := grow_old hmin2 d2 (grow_or hmin2 hmg2 hm); show M.e ≤ fin + n * i.size; rw [hfs]; exact Nat.le_trans (d5 (.inl hm)) (Nat.le_add_right _ _), fun hg => by simp only at hg; omega, fun hm => ?_⟩
          obtain ⟨hfs, hm⟩ := grow_old hmin2 d2 hm
          have d5 := d5 (.inl hm)
          obtain ⟨c2, el2, f1, f2, f3, f4⟩ := d7 hm
          by_cases hbb : M.b = L.b
          · have hss := (R.sep _ _ _ _ _ _ hN l1 hbb).2
            obtain ⟨f1e, fz2, f1a, f1f⟩ := f1
            rw [hbb] at f1a
            rw [b1a] at f1a
            cases f1a
            refine ⟨c', el, ⟨b1e, fz, by rw [hbb]; exact s1, by rw [s2, hss]; exact b1f⟩, s2.trans f2, f3, fun p p1 p2 => ?_⟩
            obtain ⟨v, y, u1, u2, u3⟩ := f4 p p1 p2
            exact ⟨v, y, (h3 p (.inl (by omega))).trans u1, (s3 (p - M.s) (.inl (by rw [hss]; exact sub_lt_of (by rw [hsz', hfs]; exact Nat.lt_of_lt_of_le p2 d5) l3 (by rw [← hss]; exact p1)))).trans u2, VRel.up hle _ _ u3⟩
          · refine ⟨c2, el2, f1.congr (heap_setCells_other _ _ _ _ _ hbb), f2, f3, fun p p1 p2 => ?_⟩
            obtain ⟨v, y, u1, u2, u3⟩ := f4 p p1 p2
            exact ⟨v, y, (h3 p (.inl (by omega))).trans u1, u2, VRel.up hle _ _ u3⟩
        · have hbb : M.b ≠ L.b := fun hbb => hj (R.sep _ _ _ _ _ _ hN l1 hbb).1
          refine ⟨blk2, (h6 j hj).trans d1, d2, by rw [size_setCells]; exact d3, d4, d5, d6, fun hm => ?_⟩
          obtain ⟨c2, el2, f1, f2, f3, f4⟩ := d7 hm
          refine ⟨c2, el2, f1.congr (heap_setCells_other _ _ _ _ _ hbb), f2, f3, fun p p1 p2 => ?_⟩
          obtain ⟨v, y, u1, u2, u3⟩ := f4 p p1 p2
          exact ⟨v, y, u1, u2, VRel.up hle _ _ u3⟩
    · intro j g' M hM
      rcases hcase hM with ⟨e1, e2, e3⟩ | hN
      · rw [e1]; exact R.ids _ _ _ l1
      · exact R.ids _ _ _ hN
    · intro j g' M j' g'' M' hM hM' hbb
      rcases hcase hM with ⟨i1, i2, i3⟩ | hN <;> rcases hcase hM' with ⟨j1, j2, j3⟩ | hN'
      · exact ⟨i1.trans j1.symm, by rw [i3, j3]⟩
      · have := R.sep _ _ _ _ _ _ l1 hN' (by rw [← hbb, i3])
        exact ⟨i1.trans this.1, by rw [i3]; exact this.2⟩
      · have := R.sep _ _ _ _ _ _ hN l1 (by rw [hbb, j3])
        exact ⟨this.1.trans j1.symm, by rw [j3]; exact this.2⟩
      · exact R.sep _ _ _ _ _ _ hN hN' hbb
    · exact R.flo
    · intro b hb'
      rw [heap_setCells_other]
      · exact R.old b hb'
      · have := R.up _ _ _ l1 (geB_ok hfl)
        omega
    · intro j g' M hM hf
      rcases hcase hM with ⟨e1, e2, e3⟩ | hN
      · rw [e3]
        have := R.up _ _ _ l1 (by rw [← e1]; exact hf)
        exact this
      · exact R.up _ _ _ hN hf
    · rw [(os_setCells _ _ _ _).2.2]; exact R.tp
    · rw [(os_setCells _ _ _ _).1]; exact R.os
    · rw [(os_setCells _ _ _ _).2.1]; exact R.out
    · rw [size_setCells]; exact R.siz
    · refine R.mp.of hle fun j M blk2 hM h2' kc h3' => ?_
      rcases hcase hM with ⟨_, e2, _⟩ | hN
      · exact absurd e2 (by omega)
      · by_cases hj : j = id
        · subst hj
          have hb2 : hp.get j = some blk2 := h2'
          rw [h5] at hb2
          have hb3 := Option.some.inj hb2
          subst hb3
          have h3'' : min' = cur + 1 + kdN kc := h3'
          have := kdN_pos kc
          omega
        · exact ⟨hN, (h6 j hj).symm.trans h2', heap_setCells_other _ _ _ _ _ fun hbb => hj (R.sep _ _ _ _ _ _ hN l1 hbb).1⟩
    · refine R.ito.of fun j g' M blk2 hM h2' hg h3' => ?_
      by_cases hj : j = id
      · subst hj
        have hb2 : hp.get j = some blk2 := h2'
        rw [h5] at hb2
        have hb3 := Option.some.inj hb2
        subst hb3
        have h3'' : min' = cur + 1 + 9 := h3'
        omega
      · rcases hcase hM with ⟨e1, _, _⟩ | hN
        · exact absurd e1 hj
        · exact ⟨hN, (h6 j hj).symm.trans h2', heap_setCells_other _ _ _ _ _ fun hbb => hj (R.sep _ _ _ _ _ _ hN l1 hbb).1⟩
  · -- elsewhere
    have hcb : off - L.s + len * i.size ≤ c.size := by omega
    obtain ⟨new, n1, n2⟩ := x2 (dr w (w.drawn + 1)) w0 (R.dr _)
    have nl := n1.length
    simp at nl
    obtain ⟨zv, z1, z2⟩ := zero_rel (ρ := ρ) (z := i.zero) (by omega)
    have zl := z2.length
    simp at zl
    have hold : (Builtin.firstCells i.size len (.slice (some ⟨L.b, off - L.s, none⟩) len cc)).run P (dr w (w.drawn + 1)) = .ok ((List.range (len * i.size)).map fun j => c.getD (off - L.s + j) default).toArray (dr w (w.drawn + 1)) := by
      unfold Builtin.firstCells
      refine run_loadCells (dr w (w.drawn + 1)) ⟨L.b, off - L.s, none⟩ (len * i.size) (fun j => c.getD (off - L.s + j) default) (fun j hj => ?_)
      have b1' : HasC (dr w (w.drawn + 1)) L.b L.s c el bel fr := b1
      have hlt : off - L.s + j < c.size := Nat.lt_of_lt_of_le (Nat.add_lt_add_left hj _) hcb
      rw [add_none, b1'.cell?]
      simp [hlt]
    obtain ⟨nc, c1, c2⟩ := run_append_out P w t t' ty elem e' i zv (some ⟨L.b, off - L.s, none⟩) len cc n xv _ new hu hu' hi z1 (x1 P w) hc hbd' hby hold (n2 P)
    generalize hoa : ((List.range (len * i.size)).map fun j => c.getD (off - L.s + j) default).toArray = oa at c2
    have oas : oa.size = len * i.size := by rw [← hoa]; simp
    have oag : ∀ j, j < len * i.size → oa[j]? = c[off - L.s + j]? := by
      intro j hj
      have hlt : off - L.s + j < c.size := Nat.lt_of_lt_of_le (Nat.add_lt_add_left hj _) hcb
      rw [← hoa]
      simp [hj, hlt]
    have hcsz : (oa ++ new ++ Builtin.zeroCells zv.cells (nc - (len + n))).size = nc * i.size := by
      simp only [Array.size_append, zeroCells_size]
      have h6' : (nc - (len + n)) * zv.cells.size = nc * i.size - (len + n) * i.size := by
        rw [show zv.cells.size = i.size by omega, Nat.sub_mul]
      have h5' : (len + n) * i.size ≤ nc * i.size := Nat.mul_le_mul_right _ (by omega)
      have h7' : (len + n) * i.size = len * i.size + n * i.size := Nat.add_mul _ _ _
      omega
    have hncs : (len + n) * i.size ≤ nc * i.size := Nat.mul_le_mul_right _ (by omega)
    rw [Nat.add_mul] at hncs
    have hle := Emb.put_le (⟨w.heap.size, off, fin + n * i.size, nc * i.size, none⟩ : Loc) hnone
    refine ⟨_, _, c2, ρ.put id (cur + 1) ⟨w.heap.size, off, fin + n * i.size, nc * i.size, none⟩, Ext.put hnone (geB_ok hfl),
      ⟨_, _, _, Emb.put_same _ _ _ _, rfl, c1, Nat.le_refl _, Nat.le_refl _, .inr (by rw [Nat.sub_self]), (fun d hd hl => absurd hl (capZ_big hs1 hd)), fun _ => .inr ⟨i.size, q1, by rw [Nat.add_mul]; omega, by simp, fun d hd => capZ_eq hd⟩⟩, ?_⟩
    have hcase : ∀ {j g' M}, ρ.put id (cur + 1) ⟨w.heap.size, off, fin + n * i.size, nc * i.size, none⟩ j g' = some M → (j = id ∧ g' = cur + 1 ∧ M = ⟨w.heap.size, off, fin + n * i.size, nc * i.size, none⟩) ∨ ρ j g' = some M := by
      intro j g' M hM
      by_cases e : j = id ∧ g' = cur + 1
      · left; obtain ⟨rfl, rfl⟩ := e; rw [Emb.put_same] at hM; exact ⟨rfl, rfl, (Option.some.inj hM).symm⟩
      · right; rwa [Emb.put_other _ _ _ _ e] at hM
    constructor
    · intro j g' M hM
      rcases hcase hM with ⟨e1, e2, e3⟩ | hN
      · subst e1; subst e2; subst e3
        refine ⟨_, h5, Nat.le_refl _, by rw [alloc_size]; exact Nat.lt_succ_self _, by show off ≤ fin + n * i.size; omega, fun _ => Nat.le_refl _, fun _ => rfl, fun _ => ⟨_, elem, ⟨hel'.symm, (0, 0), alloc_get_new _ _, FzOk.clean _ _ _⟩, hcsz, by show fin + n * i.size - off ≤ nc * i.size; omega, fun p p1 p2 => ?_⟩⟩
        simp only at p1 p2
        by_cases hpf : p < fin
        · obtain ⟨v, y, f1, f2, f3⟩ := b4 p (Nat.le_trans l3 p1) (Nat.lt_of_lt_of_le hpf l4)
          refine ⟨v, y, (h3 p (.inl hpf)).trans f1, ?_, VRel.up hle _ _ f3⟩
          have hlt : p - off < len * i.size := sub_lt_two (by rw [hsz']; exact hpf) p1
          rw [Array.append_assoc, Array.getElem?_append_left (by rw [oas]; exact hlt)]
          rw [oag _ hlt, arith4 l3 p1]
          exact f2
        · have hv : vs[p - fin]? = some (vs[p - fin]'(sub_lt_two (by rw [hlen]; exact p2) (Nat.le_of_not_lt hpf))) := by simp
          obtain ⟨y, y1, y2⟩ := n1.get hv
          refine ⟨_, y, ?_, ?_, VRel.up hle _ _ y2⟩
          · have := h2 (p - fin) _ hv
            rwa [Nat.add_sub_of_le (Nat.le_of_not_lt hpf)] at this
          · have hlt : p - fin < vs.length := sub_lt_two (by rw [hlen]; exact p2) (Nat.le_of_not_lt hpf)
            have hge := Nat.le_of_not_lt hpf
            have e8 : p - off - oa.size = p - fin := by rw [oas, ← hsz', Nat.sub_sub]
            have e9 : oa.size ≤ p - off := by rw [oas]; exact Nat.le_sub_of_add_le (by rw [Nat.add_comm, hsz']; exact hge)
            rw [Array.append_assoc, Array.getElem?_append_right e9]
            rw [e8, Array.getElem?_append_left (by rw [← nl]; exact hlt), ← Array.getElem?_toList]
            exact y1
      · obtain ⟨blk2, d1, d2, d3, d4, d5, d6, d7⟩ := R.loc _ _ _ hN
        by_cases hj : j = id
        · subst hj
          have : heap.get j = some blk2 := d1
          rw [hb] at this
          cases this
          simp only at d2 d5 d6 d7
          refine ⟨_, h5, by simp only; omega, by rw [alloc_size]; exact Nat.lt_succ_of_lt d3, d4, fun hm => by obtain ⟨hfs, hm⟩ := grow_old hmin2 d2 (grow_or hmin2 hmg2 hm); show M.e ≤ fin + n * i.size; rw [hfs]; exact Nat.le_trans (d5 (.inl hm)) (Nat.le_add_right _ _), fun hg => by simp only at hg; omega, fun hm => ?_⟩
          obtain ⟨hfs, hm⟩ := grow_old hmin2 d2 hm
          have d5 := d5 (.inl hm)
          obtain ⟨c2, el2, f1, f2, f3, f4⟩ := d7 hm
          refine ⟨c2, el2, f1.congr (alloc_get_old _ _ d3), f2, f3, fun p p1 p2 => ?_⟩
          obtain ⟨v, y, u1, u2, u3⟩ := f4 p p1 p2
          exact ⟨v, y, (h3 p (.inl (by omega))).trans u1, u2, VRel.up hle _ _ u3⟩
        · refine ⟨blk2, (h6 j hj).trans d1, d2, by rw [alloc_size]; exact Nat.lt_succ_of_lt d3, d4, d5, d6, fun hm => ?_⟩
          obtain ⟨c2, el2, f1, f2, f3, f4⟩ := d7 hm
          refine ⟨c2, el2, f1.congr (alloc_get_old _ _ d3), f2, f3, fun p p1 p2 => ?_⟩
          obtain ⟨v, y, u1, u2, u3⟩ := f4 p p1 p2
          exact ⟨v, y, u1, u2, VRel.up hle _ _ u3⟩
    · intro j g' M hM
      rcases hcase hM with ⟨e1, e2, e3⟩ | hN
      · rw [e1]; exact R.ids _ _ _ l1
      · exact R.ids _ _ _ hN
    · intro j g' M j' g'' M' hM hM' hbb
      rcases hcase hM with ⟨i1, i2, i3⟩ | hN <;> rcases hcase hM' with ⟨j1, j2, j3⟩ | hN'
      · exact ⟨i1.trans j1.symm, by rw [i3, j3]⟩
      · obtain ⟨_, _, _, d3, _⟩ := R.loc _ _ _ hN'
        rw [← hbb, i3] at d3; exact absurd d3 (Nat.lt_irrefl _)
      · obtain ⟨_, _, _, d3, _⟩ := R.loc _ _ _ hN
        rw [hbb, j3] at d3; exact absurd d3 (Nat.lt_irrefl _)
      · exact R.sep _ _ _ _ _ _ hN hN' hbb
    · exact R.flo
    · intro b hb'
      rw [alloc_get_old (dr w (w.drawn + 1)) _ (Nat.lt_of_lt_of_le hb' R.siz)]
      exact R.old b hb'
    · intro j g' M hM hf
      rcases hcase hM with ⟨e1, e2, e3⟩ | hN
      · rw [e3]; exact R.siz
      · exact R.up _ _ _ hN hf
    · exact R.tp
    · exact R.os
    · exact R.out
    · rw [alloc_size]; exact Nat.le_succ_of_le R.siz
    · refine R.mp.of hle fun j M blk2 hM h2' kc h3' => ?_
      rcases hcase hM with ⟨_, e2, _⟩ | hN
      · exact absurd e2 (by omega)
      · by_cases hj : j = id
        · subst hj
          have hb2 : hp.get j = some blk2 := h2'
          rw [h5] at hb2
          have hb3 := Option.some.inj hb2
          subst hb3
          have h3'' : min' = cur + 1 + kdN kc := h3'
          have := kdN_pos kc
          omega
        · exact ⟨hN, (h6 j hj).symm.trans h2', by obtain ⟨_, _, _, d3, _⟩ := R.loc _ _ _ hN; exact alloc_get_old (dr w (w.drawn + 1)) _ d3⟩
    · refine R.ito.of fun j g' M blk2 hM h2' hg h3' => ?_
      by_cases hj : j = id
      · subst hj
        have hb2 : hp.get j = some blk2 := h2'
        rw [h5] at hb2
        have hb3 := Option.some.inj hb2
        subst hb3
        have h3'' : min' = cur + 1 + 9 := h3'
        omega
      · rcases hcase hM with ⟨e1, _, _⟩ | hN
        · exact absurd e1 hj
        · exact ⟨hN, (h6 j hj).symm.trans h2', by obtain ⟨_, _, _, d3, _⟩ := R.loc _ _ _ hN; exact alloc_get_old (dr w (w.drawn + 1)) _ d3⟩
end
end Go.Ev

set_option linter.all false
namespace Go.Ev
open Go Go.MapKept
theorem getP_ok : ∀ (n : Nat) (t : T V) (o : Nat) (k : List (V × V) → Bool), getP n t o k = true →
    ∃ ps, (∀ k', getP n t o k' = k' ps) ∧ ps.length = n ∧ ∀ (i : Nat) kv, ps[i]? = some kv → t.getN (o + 2 * i) = some kv.1 ∧ t.getN (o + 2 * i + 1) = some kv.2 := by
  intro n
  induction n with
  | zero => intro t o k _; exact ⟨[], fun _ => rfl, rfl, fun i kv h => by simp at h⟩
  | succ n ih =>
    intro t o k h
    have e : ∀ k', getP (n + 1) t o k' = optK (t.getN o) fun a => optK (t.getN (o + 1)) fun b => getP n t (o + 2) fun ps => k' ((a, b) :: ps) := fun _ => rfl
    rw [e] at h
    obtain ⟨a, ha, h⟩ := optK_ok h
    obtain ⟨b, hb, h⟩ := optK_ok h
    obtain ⟨ps, h1, h2, h3⟩ := ih _ _ _ h
    refine ⟨(a, b) :: ps, fun k' => by rw [e, ha, optK_some, hb, optK_some, h1], by simp [h2], fun i kv hi => ?_⟩
    cases i with
    | zero => simp at hi; subst hi; exact ⟨by simpa using ha, by simpa using hb⟩
    | succ i =>
      have := h3 i kv (by simpa using hi)
      rw [show o + 2 * (i + 1) = o + 2 + 2 * i by omega]
      exact this
theorem RdP.uniq {t : T V} {n : Nat} {ps qs : List (V × V)} (a : RdP t n ps) (b : RdP t n qs) : ps = qs := by
  apply List.ext_getElem (by rw [a.1, b.1])
  intro i h1 h2
  have e1 : ps[i]? = some ps[i] := by simp
  have e2 : qs[i]? = some qs[i] := by simp
  obtain ⟨a1, a2⟩ := a.2 i _ e1
  obtain ⟨b1, b2⟩ := b.2 i _ e2
  rw [a1] at b1
  rw [a2] at b2
  exact Prod.ext (Option.some.inj b1) (Option.some.inj b2)
theorem flat2_get : ∀ (ps : List (V × V)) (i : Nat) kv, ps[i]? = some kv → (flat2 ps)[2 * i]? = some kv.1 ∧ (flat2 ps)[2 * i + 1]? = some kv.2
  | [], i, kv, h => by simp at h
  | (a, b) :: r, 0, kv, h => by simp at h; subst h; exact ⟨rfl, rfl⟩
  | (a, b) :: r, i + 1, kv, h => by
    have := flat2_get r i kv (by simpa using h)
    rw [show 2 * (i + 1) = 2 * i + 1 + 1 by omega]
    exact ⟨by simpa [flat2] using this.1, by simpa [flat2] using this.2⟩
theorem mapK_ok {h : H} {id : B} {k : B → B → T Blk → Nat → Nat → Nat → Nat → List (V × V) → Bool} (hk : mapK h id k = true) :
    ∃ next floor heap cur min size cells n fr ps, h = ⟨next, floor, heap⟩ ∧ heap.get id = some ⟨cur, min, size, cells, n, fr⟩ ∧ min = cur + 7 ∧ RdP cells n ps ∧ ∀ k', mapK h id k' = k' next floor heap cur min size fr ps := by
  obtain ⟨next, floor, heap⟩ := h
  simp only [mapK, hK_mk] at hk
  obtain ⟨⟨cur, min, size, cells, n, fr⟩, hb, hk⟩ := optK_ok hk
  simp only [blkK_mk] at hk
  obtain ⟨hm, hk⟩ := ifK_ok hk
  obtain ⟨ps, h1, h2, h3⟩ := getP_ok _ _ _ _ hk
  refine ⟨next, floor, heap, cur, min, size, cells, n, fr, ps, rfl, hb, Nat.eq_of_beq_eq_true hm, ⟨h2, fun i kv hi => by simpa using h3 i kv hi⟩, fun k' => ?_⟩
  simp only [mapK, hK_mk, hb, optK_some, blkK_mk, hm, ifK_true, h1]
theorem map_world {ρ : Emb} {h : H} {w w0 : World} {id : B} {x : Value} {blk : Blk} {ps : List (V × V)} (R : HRel ρ h w w0) (hv : VRel ρ (.m id) x) (hb : h.heap.get id = some blk) (hm : blk.min = blk.cur + 7) (hp : RdP blk.cells blk.el ps) :
    ∃ L es clock, ρ id 0 = some L ∧ x = .map (some L.b) ∧ w.heap[L.b]? = some (.map es clock) ∧ MapP ρ ps es clock := by
  obtain ⟨L, h1, h2⟩ := hv
  obtain ⟨es, clock, h3, qs, h4, h5⟩ := R.mp.map id L blk h1 hb hm
  obtain rfl := hp.uniq h4
  exact ⟨L, es, clock, h1, h2, h3, h5⟩
def kindD : Option IntKind → TypeDesc
  | none => .string
  | some k => .int k
theorem keyKind_ok {P : Program} {t : TypeId} {kd : Option IntKind} (h : keyKind (tyAt P t) = some kd) : P.underlying t = some (kindD kd) := by
  cases ht : tyAt P t with
  | none => rw [ht] at h; cases h
  | some ty =>
    rw [ht] at h
    obtain ⟨s, b, d, z⟩ := ty
    obtain ⟨i, i1, i2, i3, i4, i5⟩ := tyAt_ok ht
    cases d <;> first | (cases h; exact i5) | cases h
theorem keyEq_ok {ρ : Emb} {kd : Option IntKind} {a b : V} {r : Bool} {x y : Value} (h : keyEq kd a b = some r) (hx : VRel ρ a x) (hy : VRel ρ b y) : IsKey (kindD kd) x ∧ IsKey (kindD kd) y ∧ (r = true ↔ x = y) := by
  cases kd with
  | none =>
    cases a <;> cases b <;> try cases h
    rename_i l n l' n'
    obtain ⟨bs, rfl, e1, e2, _⟩ := srel hx
    obtain ⟨bs', rfl, e3, e4, _⟩ := srel hy
    refine ⟨trivial, trivial, ?_⟩
    have := eqS_pk bs bs'
    rw [e1, e2, e3, e4] at this
    rw [← this]
    constructor
    · intro q
      have q : bs.toList = bs'.toList := by simpa using q
      rw [ByteArray.toList_eq, ByteArray.toList_eq] at q
      obtain ⟨⟨l1⟩⟩ := bs
      obtain ⟨⟨l2⟩⟩ := bs'
      cases q; rfl
    · intro q; cases q; simp
  | some k =>
    cases a <;> cases b <;> try cases h
    rename_i kd n kd' n'
    have h' : (match kdEq kd k && kdEq kd' k with | true => some (eqI n n') | false => none) = some r := h
    cases hk : (kdEq kd k && kdEq kd' k) with
    | false => rw [hk] at h'; cases h'
    | true =>
      rw [hk] at h'
      rw [Bool.and_eq_true] at hk
      have e1 := kdEq_ok hk.1
      have e2 := kdEq_ok hk.2
      subst e1; subst e2
      have hx' : x = .int kd' n := hx
      have hy' : y = .int kd' n' := hy
      subst hx'; subst hy'
      have h'' : eqI n n' = r := Option.some.inj h'
      refine ⟨rfl, rfl, ?_⟩
      rw [← h'', eqI_eq]
      simp
theorem F2.length {ρ : Emb} {ps : List (V × V)} {l : List MapEntry} (f : F2 ρ ps l) : ps.length = l.length := by
  induction f with
  | nil => rfl
  | cons _ _ _ ih => simp [ih]
theorem F2.get {ρ : Emb} {ps : List (V × V)} {l : List MapEntry} (f : F2 ρ ps l) : ∀ {i : Nat} {e : MapEntry}, l[i]? = some e → ∃ kv, ps[i]? = some kv ∧ VRel ρ kv.1 e.key ∧ VRel ρ kv.2 e.val := by
  induction f with
  | nil => intro i e h; simp at h
  | cons a b _ ih =>
    intro i e h
    cases i with
    | zero => simp at h; subst h; exact ⟨_, rfl, a, b⟩
    | succ i => exact ih (by simpa using h)
theorem findP_ok {ρ : Emb} {kd : Option IntKind} {q : V} {y : Value} (hy : VRel ρ q y) {ps : List (V × V)} {l : List MapEntry} (f : F2 ρ ps l) : ∀ {r : Option Nat}, findP kd q ps = some r →
    IsKey (kindD kd) y ∧ (∀ e ∈ l, IsKey (kindD kd) e.key) ∧ (r = none → ∀ e ∈ l, e.key ≠ y) ∧ ∀ i, r = some i → ∃ e, l[i]? = some e ∧ e.key = y := by
  induction f with
  | nil =>
    intro r h
    unfold findP at h
    cases hq : keyEq kd q q with
    | none => rw [hq] at h; cases h
    | some b =>
      rw [hq] at h
      cases h
      exact ⟨(keyEq_ok hq hy hy).1, fun e he => (by cases he), fun _ e he => (by cases he), fun i hi => (by cases hi)⟩
  | @cons k v e ps es a b _ ih =>
    intro r h
    unfold findP at h
    cases hq : keyEq kd q k with
    | none => rw [hq] at h; cases h
    | some c =>
      rw [hq] at h
      cases hr : findP kd q ps with
      | none => rw [hr] at h; cases c <;> cases h
      | some s =>
        rw [hr] at h
        obtain ⟨i1, i2, i3, i4⟩ := ih hr
        obtain ⟨j1, j2, j3⟩ := keyEq_ok hq hy a
        have hall : ∀ x ∈ e :: es, IsKey (kindD kd) x.key := fun x hx => by
          rcases List.mem_cons.1 hx with rfl | hx
          · exact j2
          · exact i2 x hx
        cases c with
        | true =>
          cases h
          exact ⟨i1, hall, fun h => (by cases h), fun i hi => by cases hi; exact ⟨e, rfl, (j3.1 rfl).symm⟩⟩
        | false =>
          have hne : e.key ≠ y := fun q => by have := j3.2 q.symm; cases this
          cases s with
          | none =>
            cases h
            refine ⟨i1, hall, fun _ x hx => ?_, fun i hi => (by cases hi)⟩
            rcases List.mem_cons.1 hx with rfl | hx
            · exact hne
            · exact i3 rfl x hx
          | some n =>
            cases h
            refine ⟨i1, hall, fun h => (by cases h), fun i hi => ?_⟩
            cases hi
            obtain ⟨x, x1, x2⟩ := i4 n rfl
            exact ⟨x, by simpa using x1, x2⟩
theorem key_uniq {es : Array MapEntry} {clock : Nat} (st : Stamped es clock) {i j : Nat} {e f : MapEntry} (hi : es.toList[i]? = some e) (hj : es.toList[j]? = some f) (h : e.key = f.key) : i = j := by
  have hp := ((stamped_iff es clock).1 st).2.2
  rw [List.pairwise_iff_getElem] at hp
  obtain ⟨h1, e1⟩ := List.getElem?_eq_some_iff.1 hi
  obtain ⟨h2, e2⟩ := List.getElem?_eq_some_iff.1 hj
  rcases Nat.lt_trichotomy i j with hlt | he | hlt
  · exact absurd (by rw [e1, e2]; exact h) (hp i j h1 h2 hlt)
  · exact he
  · exact absurd (by rw [e1, e2]; exact h.symm) (hp j i h2 h1 hlt)
/-- what 'findNow' finds -/
theorem find_world {ρ : Emb} {kd : Option IntKind} {q : V} {y : Value} {ps : List (V × V)} {es : Array MapEntry} {clock : Nat} {r : Option Nat} (m : MapP ρ ps es clock) (hy : VRel ρ q y) (hf : findP kd q ps = some r) :
    IsKey (kindD kd) y ∧ (∀ e ∈ es.toList, IsKey (kindD kd) e.key) ∧
    ((r = none ∧ Instr.findNow (kindD kd) y es.toList 0 = some none ∧ ∀ e ∈ es.toList, e.key ≠ y) ∨
     ∃ i j e l kv, r = some i ∧ Instr.findNow (kindD kd) y es.toList 0 = some (some (j, e.val)) ∧ es.toList[j]? = some e ∧ e.key = y ∧ l.Perm es.toList ∧ F2 ρ ps l ∧ l[i]? = some e ∧ ps[i]? = some kv ∧ VRel ρ kv.1 e.key ∧ VRel ρ kv.2 e.val) := by
  obtain ⟨l, l1, l2⟩ := m.rel
  obtain ⟨a1, a2, a3, a4⟩ := findP_ok hy l2 hf
  have hes : ∀ e ∈ es.toList, IsKey (kindD kd) e.key := fun e he => a2 e (l1.mem_iff.2 he)
  refine ⟨a1, hes, ?_⟩
  rcases findNow_spec a1 es.toList 0 hes with ⟨h1, h2⟩ | ⟨j, e, h1, h2, h3⟩
  · cases r with
    | none => exact .inl ⟨rfl, h1, h2⟩
    | some i =>
      obtain ⟨e, e1, e2⟩ := a4 i rfl
      exact absurd e2 (h2 e (l1.mem_iff.1 (List.mem_of_getElem? e1)))
  · cases r with
    | none => exact absurd h3 (a3 rfl e (l1.mem_iff.2 (List.mem_of_getElem? h2)))
    | some i =>
      obtain ⟨f, f1, f2⟩ := a4 i rfl
      obtain ⟨jf, hjf⟩ := List.mem_iff_getElem?.1 (l1.mem_iff.1 (List.mem_of_getElem? f1))
      have : jf = j := key_uniq m.st hjf h2 (by rw [f2, h3])
      subst this
      rw [h2] at hjf
      cases hjf
      obtain ⟨kv, k1, k2, k3⟩ := l2.get f1
      exact .inr ⟨i, jf, e, l, kv, rfl, by rw [h1, Nat.zero_add], h2, h3, l1, l2, f1, k1, k2, k3⟩
theorem zeroV_ok {P : Program} {t : TypeId} {z : V} (h : zeroV P t = some z) (ρ : Emb) : ∃ v, (∀ w, (zeroValue t).run P w = .ok v w) ∧ VRel ρ z v := by
  have look : ∀ {i : TypeInfo}, P.types.toList[t]? = some i → P.info? t = some i := by
    intro i hu
    have hu' : P.types[t]? = some i := by simpa using hu
    have hlt : t < P.types.size := (Array.getElem?_eq_some_iff.1 hu').1
    simp only [Tables.info?, hlt, if_true]
    exact hu'
  unfold zeroV at h
  split at h
  · rename_i i hi
    split at h
    · rename_i cs hz
      cases h
      refine ⟨_, fun w => run_zero' (look hi) hz w, _, rfl, ?_⟩
      show LRel ρ _ cs
      clear hz
      induction cs with
      | nil => trivial
      | cons c cs ih => exact ⟨ofConst_rel ρ c, ih⟩
    · rename_i v _ hz
      cases h
      exact ⟨v, fun w => run_zero' (look hi) hz w, ofConst_rel ρ v⟩
    · cases h
  · cases h
theorem lookup_ok (P : Program) (o : Oper) (t : TypeId) (x q : Operand) (ok : Bool) (h : o.op = .lookup t x q ok) : RunOk P o (runK (compLookup P t (compO x) (compO q) ok)) := by
  cases ht : tyAt P t with
  | none => simp only [compLookup, ht]; exact no_ok P o
  | some ty =>
    obtain ⟨s1, s2, d, s4⟩ := ty
    obtain ⟨i, i1, i2, i3, i4, i5⟩ := tyAt_ok ht
    cases d <;> simp only [compLookup, ht] <;> try exact no_ok P o
    rename_i kt e
    cases hkk : keyKind (tyAt P kt) with
    | none => exact no_ok P o
    | some kd =>
    cases hz : zeroV P e with
    | none => exact no_ok P o
    | some z =>
    have hkt := keyKind_ok hkk
    have res : ∀ {ρ : Emb} {v : V} {y : Value} (b : Bool), VRel ρ v y → VRel ρ (lkRes ok v b) (if ok then .tuple #[y, .bool b] else y) := fun b hv => by
      cases ok
      · exact hv
      · exact ⟨_, rfl, hv, rfl, trivial⟩
    refine RunOk.pure (by rw [h]; rfl) fun cf fr hp k hk => ?_
    simp only [runK_mk, doLookup, oE_eq] at hk
    cases hx : oV (compO x) fr <;> rw [hx] at hk <;> try exact Bool.noConfusion hk
    · obtain ⟨b, hb, _⟩ := optK_ok hk
      refine ⟨lkRes ok z false, fun k' => by simp only [runK_mk, doLookup, oE_eq, hx, vM, hb, optK_some], fun ρ a A w w0 R => ?_⟩
      have ex := A x (by rw [h]; simp [Op.operands])
      rw [hx] at ex
      have ex' : a.eval x = .map none := ex
      have eq := A q (by rw [h]; simp [Op.operands])
      obtain ⟨zv, z1, z2⟩ := zeroV_ok hz ρ
      refine ⟨_, ?_, res false z2⟩
      have hf : Instr.findNow (kindD kd) (a.eval q) [] 0 = some none := rfl
      unfold execOp
      rw [h]
      simp only [ex', Instr.lookup, Sem.run_bind, run_underlying i5, Result.andThen_ok, Sem.run_pure', Go.MapKept.run_checkKey hkt (keyEq_ok hb eq eq).1, Go.MapKept.run_findKey hkt hf, z1 w]
    · rename_i id
      obtain ⟨next, floor, heap, cur, min, size, cells, n, frz, ps, rfl, hb, hm, hp', hK⟩ := mapK_ok hk
      simp only [vM] at hk
      rw [hK] at hk
      obtain ⟨r, hr, _⟩ := optK_ok hk
      cases r with
      | none =>
        refine ⟨lkRes ok z false, fun k' => by simp only [runK_mk, doLookup, oE_eq, hx, vM, hK, hr, optK_some], fun ρ a A w w0 R => ?_⟩
        have ex := A x (by rw [h]; simp [Op.operands])
        rw [hx] at ex
        have eq := A q (by rw [h]; simp [Op.operands])
        obtain ⟨L, es, clock, l1, l2, l3, l4⟩ := map_world R ex hb hm hp'
        obtain ⟨f1, f2, f3⟩ := find_world l4 eq hr
        obtain ⟨zv, z1, z2⟩ := zeroV_ok hz ρ
        refine ⟨_, ?_, res false z2⟩
        rcases f3 with ⟨_, g1, _⟩ | ⟨i, _, _, _, _, g, _⟩
        · unfold execOp
          rw [h]
          simp only [l2, Instr.lookup, Sem.run_bind, run_underlying i5, Result.andThen_ok, Go.MapKept.run_getObj_map l3, Sem.run_pure', Go.MapKept.run_checkKey hkt f1, Go.MapKept.run_findKey hkt g1, z1 w]
        · cases g
      | some i =>
        refine ⟨lkRes ok ((ps.getD i (.u, .u)).2) true, fun k' => by simp only [runK_mk, doLookup, oE_eq, hx, vM, hK, hr, optK_some], fun ρ a A w w0 R => ?_⟩
        have ex := A x (by rw [h]; simp [Op.operands])
        rw [hx] at ex
        have eq := A q (by rw [h]; simp [Op.operands])
        obtain ⟨L, es, clock, l1, l2, l3, l4⟩ := map_world R ex hb hm hp'
        obtain ⟨f1, f2, f3⟩ := find_world l4 eq hr
        rcases f3 with ⟨g, _⟩ | ⟨i', j, e', l, kv, g, g1, g2, g3, g4, g5, g6, g7, g8, g9⟩
        · cases g
        · cases g
          refine ⟨_, ?_, res (y := e'.val) true (by simp only [List.getD_eq_getElem?_getD, g7, Option.getD_some]; exact g9)⟩
          unfold execOp
          rw [h]
          simp only [l2, Instr.lookup, Sem.run_bind, run_underlying i5, Result.andThen_ok, Go.MapKept.run_getObj_map l3, Sem.run_pure', Go.MapKept.run_checkKey hkt f1, Go.MapKept.run_findKey hkt g1]
theorem setHeap_get {w : World} {b : Nat} {o o' : Obj} (hb : w.heap[b]? = some o) : ({ w with heap := w.heap.setIfInBounds b o' } : World).heap[b]? = some o' := (heap_set hb).1
theorem setHeap_other {w : World} {b c : Nat} {o o' : Obj} (hb : w.heap[b]? = some o) (h : c ≠ b) : ({ w with heap := w.heap.setIfInBounds b o' } : World).heap[c]? = w.heap[c]? := (heap_set hb).2 c h
theorem setHeap_size (w : World) (b : Nat) (o' : Obj) : ({ w with heap := w.heap.setIfInBounds b o' } : World).heap.size = w.heap.size := by simp
theorem putM_ok {next floor : B} {heap : T Blk} {id : B} {cur min size fr : Nat} {cells : T V} {n : Nat} {ps qs : List (V × V)} {k : H → Bool} (hb : heap.get id = some ⟨cur, min, size, cells, n, fr⟩) (hm : min = cur + 7) (hp : RdP cells n ps)
    (hk : putM next floor heap id cur min size fr qs k = true) :
    ∃ h', (∀ k', putM next floor heap id cur min size fr qs k' = k' h') ∧ KeepF ⟨next, floor, heap⟩ h' ∧ h'.next = next ∧
      ∀ ρ w w0 L es clock es' clock', HRel ρ ⟨next, floor, heap⟩ w w0 → ρ id 0 = some L → w.heap[L.b]? = some (.map es clock) → MapP ρ qs es' clock' → HRel ρ h' { w with heap := w.heap.setIfInBounds L.b (.map es' clock') } w0 := by
  unfold putM at hk
  obtain ⟨hfl, hk⟩ := ifK_ok hk
  obtain ⟨t, h1, h2, h3⟩ := setList_ok _ _ _ _ hk
  obtain ⟨hp', h4, h5, h6⟩ := setK_ok id (⟨cur, min, size, t, qs.length, fr⟩ : Blk) heap
  refine ⟨⟨next, floor, hp'⟩, fun k' => by unfold putM; rw [hfl]; simp only [ifK_true]; rw [h1, h4], ⟨rfl, fun hf i hi => h6 i (fun e => by rw [e] at hi; exact absurd (geB_ok hfl) (Nat.not_le.2 hi))⟩, rfl, fun ρ w w0 L es clock es' clock' R hL hwb m => ?_⟩
  have oth : ∀ {i : B} {g : Nat} {M : Loc}, ρ i g = some M → i ≠ id → ({ w with heap := w.heap.setIfInBounds L.b (.map es' clock') } : World).heap[M.b]? = w.heap[M.b]? := fun {i g M} hM hi => setHeap_other hwb fun e => hi (R.sep _ _ _ _ _ _ hM hL e).1
  refine ⟨fun i g M hM => ?_, R.ids, R.sep, R.flo, fun b hb' => ?_, R.up, R.tp, R.os, R.out, by rw [setHeap_size]; exact R.siz, fun i M blk hM hblk kc hmm => ?_, R.ito.of fun i g M blk hM hblk hg hmm => ?_⟩
  · obtain ⟨blk, a1, a2, a3, a4, a5, a6, a7⟩ := R.loc _ _ _ hM
    by_cases hi : i = id
    · subst hi
      have hbe : blk = ⟨cur, min, size, cells, n, fr⟩ := by
        have : heap.get i = some blk := a1
        rw [hb] at this; exact (Option.some.inj this).symm
      subst hbe
      refine ⟨_, h5, a2, by rw [setHeap_size]; exact a3, a4, a5, a6, fun hmg => ?_⟩
      have h1' : g ≤ cur := a2
      have h2' : min ≤ g := hmg
      omega
    · refine ⟨blk, (h6 i hi).trans a1, a2, by rw [setHeap_size]; exact a3, a4, a5, a6, fun hmg => ?_⟩
      obtain ⟨c, el, b1, b2, b3, b4⟩ := a7 hmg
      exact ⟨c, el, b1.congr (oth hM hi), b2, b3, b4⟩
  · rw [setHeap_other hwb]
    · exact R.old b hb'
    · have := R.up _ _ _ hL (geB_ok hfl); omega
  · by_cases hi : i = id
    · subst hi
      have hb2 : hp'.get i = some blk := hblk
      rw [h5] at hb2
      have hb3 := Option.some.inj hb2
      subst hb3
      have : M = L := by rw [hM] at hL; exact Option.some.inj hL
      subst this
      cases kc with
      | true => exact absurd hmm (by show ¬ min = cur + 11; omega)
      | false =>
      refine ⟨_, setHeap_get hwb, es', clock', rfl, qs, ⟨rfl, fun j kv hj => ?_⟩, m⟩
      obtain ⟨f1, f2⟩ := flat2_get qs j kv hj
      exact ⟨by have := h2 _ _ f1; rwa [Nat.zero_add] at this, by have := h2 _ _ f2; rwa [Nat.zero_add] at this⟩
    · obtain ⟨o1, q1, q2⟩ := R.mp i M blk hM ((h6 i hi).symm.trans hblk) kc hmm
      exact ⟨o1, (oth hM hi).trans q1, q2⟩
  · by_cases hi : i = id
    · subst hi
      have hb2 : hp'.get i = some blk := hblk
      rw [h5] at hb2
      have hb3 := Option.some.inj hb2
      subst hb3
      have hmm : min = cur + 9 := hmm
      omega
    · exact ⟨hM, (h6 i hi).symm.trans hblk, oth hM hi⟩
theorem set_perm {α : Type} : ∀ (l : List α) (i : Nat) (a : α), i < l.length → (l.set i a).Perm (a :: l.eraseIdx i)
  | [], i, a, h => by simp at h
  | x :: l, 0, a, h => by simp
  | x :: l, i + 1, a, h => by
    have := set_perm l i a (by simpa using h)
    simp only [List.set_cons_succ, List.eraseIdx_cons_succ]
    exact (this.cons x).trans (List.Perm.swap a x _)
theorem get_perm {α : Type} : ∀ (l : List α) (i : Nat) (a : α), l[i]? = some a → l.Perm (a :: l.eraseIdx i)
  | [], i, a, h => by simp at h
  | x :: l, 0, a, h => by simp at h; subst h; simp
  | x :: l, i + 1, a, h => by
    have := get_perm l i a (by simpa using h)
    simp only [List.eraseIdx_cons_succ]
    exact (this.cons x).trans (List.Perm.swap a x _)
theorem erase_perm {α : Type} {l m : List α} (h : l.Perm m) {i j : Nat} {a : α} (hi : l[i]? = some a) (hj : m[j]? = some a) : (l.eraseIdx i).Perm (m.eraseIdx j) :=
  (((get_perm l i a hi).symm.trans h).trans (get_perm m j a hj)).cons_inv
theorem F2.set {ρ : Emb} {ps : List (V × V)} {l : List MapEntry} (f : F2 ρ ps l) {k v : V} {e : MapEntry} (hk : VRel ρ k e.key) (hv : VRel ρ v e.val) : ∀ (i : Nat), F2 ρ (ps.set i (k, v)) (l.set i e) := by
  induction f with
  | nil => intro i; exact .nil
  | cons a b c ih =>
    intro i
    cases i with
    | zero => exact .cons hk hv c
    | succ i => exact .cons a b (ih i)
theorem F2.erase {ρ : Emb} {ps : List (V × V)} {l : List MapEntry} (f : F2 ρ ps l) : ∀ (i : Nat), F2 ρ (ps.eraseIdx i) (l.eraseIdx i) := by
  induction f with
  | nil => intro i; exact .nil
  | cons a b c ih =>
    intro i
    cases i with
    | zero => exact c
    | succ i => exact .cons a b (ih i)
theorem F2.snoc {ρ : Emb} {ps : List (V × V)} {l : List MapEntry} (f : F2 ρ ps l) {k v : V} {e : MapEntry} (hk : VRel ρ k e.key) (hv : VRel ρ v e.val) : F2 ρ (ps ++ [(k, v)]) (l ++ [e]) := by
  induction f with
  | nil => exact .cons hk hv .nil
  | cons a b c ih => exact .cons a b ih
theorem mapSet_ok (P : Program) (o : Oper) (t : TypeId) (x q v : Operand) (h : o.op = .mapUpdate t x q v) : RunOk P o (runK (compMapSet P t (compO x) (compO q) (compO v))) := by
  cases ht : tyAt P t with
  | none => simp only [compMapSet, ht]; exact no_ok P o
  | some ty =>
    obtain ⟨s1, s2, d, s4⟩ := ty
    obtain ⟨i, i1, i2, i3, i4, i5⟩ := tyAt_ok ht
    cases d <;> simp only [compMapSet, ht] <;> try exact no_ok P o
    rename_i kt e
    cases hkk : keyKind (tyAt P kt) with
    | none => exact no_ok P o
    | some kd =>
    have hkt := keyKind_ok hkk
    intro cf _ fr hp k hk
    simp only [runK_mk, doMapSet, oE_eq] at hk
    cases hx : oV (compO x) fr <;> rw [hx] at hk <;> try exact Bool.noConfusion hk
    rename_i id
    obtain ⟨next, floor, heap, cur, min, size, cells, n, frz, ps, rfl, hb, hm, hp', hK⟩ := mapK_ok hk
    simp only [vM] at hk
    rw [hK] at hk
    obtain ⟨r, hr, hk⟩ := optK_ok hk
    cases r with
    | none =>
      obtain ⟨h', p1, p2, p3, p4⟩ := putM_ok hb hm hp' hk
      refine ⟨.tu [], h', fun k' => by simp only [runK_mk, doMapSet, oE_eq, hx, vM, hK, hr, optK_some, p1], p2, by rw [p3]; exact Nat.le_refl _, fun ρ a w w0 A R => ?_, fun hs => by rw [h] at hs; exact Bool.noConfusion hs⟩
      have ex := A x (by rw [h]; simp [Op.operands])
      rw [hx] at ex
      have eq := A q (by rw [h]; simp [Op.operands])
      have ev := A v (by rw [h]; simp [Op.operands])
      obtain ⟨L, es, clock, l1, l2, l3, l4⟩ := map_world R ex hb hm hp'
      obtain ⟨f1, f2, f3⟩ := find_world l4 eq hr
      rcases f3 with ⟨_, g1, g2⟩ | ⟨i, _, _, _, _, g, _⟩
      · obtain ⟨l, m1, m2⟩ := l4.rel
        refine ⟨.skip, _, ?_, ρ, Ext.refl _ ρ, ⟨#[], rfl, trivial⟩, p4 ρ w w0 L es clock (es.push { key := a.eval q, val := a.eval v, born := clock }) (clock + 1) R l1 l3 ⟨⟨l ++ [{ key := a.eval q, val := a.eval v, born := clock }], ?_, m2.snoc eq ev⟩, stamped_push l4.st g2⟩⟩
        · unfold execOp
          rw [h]
          simp only [l2, Instr.mapUpdate, Sem.run_bind, run_underlying i5, Result.andThen_ok, Go.MapKept.run_getObj_map l3, Go.MapKept.run_checkKey hkt f1, Go.MapKept.run_findKey hkt g1, run_setObj_map _ l3]
          rfl
        · rw [Array.toList_push]; exact m1.append_right _
      · cases g
    | some i0 =>
      obtain ⟨h', p1, p2, p3, p4⟩ := putM_ok hb hm hp' hk
      refine ⟨.tu [], h', fun k' => by simp only [runK_mk, doMapSet, oE_eq, hx, vM, hK, hr, optK_some, p1], p2, by rw [p3]; exact Nat.le_refl _, fun ρ a w w0 A R => ?_, fun hs => by rw [h] at hs; exact Bool.noConfusion hs⟩
      have ex := A x (by rw [h]; simp [Op.operands])
      rw [hx] at ex
      have eq := A q (by rw [h]; simp [Op.operands])
      have ev := A v (by rw [h]; simp [Op.operands])
      obtain ⟨L, es, clock, l1, l2, l3, l4⟩ := map_world R ex hb hm hp'
      obtain ⟨f1, f2, f3⟩ := find_world l4 eq hr
      rcases f3 with ⟨g, _⟩ | ⟨i', j, e', l, kv, g, g1, g2, g3, g4, g5, g6, g7, g8, g9⟩
      · cases g
      · cases g
        have hj : es[j]? = some e' := by rw [← Array.getElem?_toList]; exact g2
        have hmod : (es.modify j fun e => { e with key := a.eval q, val := a.eval v }).toList = es.toList.set j { e' with key := a.eval q, val := a.eval v } := by
          apply List.ext_getElem?
          intro n
          rw [Array.getElem?_toList, Array.getElem?_modify, List.getElem?_set]
          by_cases hn : j = n
          · subst hn
            have hjl : j < es.toList.length := (List.getElem?_eq_some_iff.1 g2).1
            rw [if_pos rfl, if_pos rfl, if_pos hjl, hj]; rfl
          · rw [if_neg hn, if_neg hn, Array.getElem?_toList]
        refine ⟨.skip, _, ?_, ρ, Ext.refl _ ρ, ⟨#[], rfl, trivial⟩, p4 ρ w w0 L es clock (es.modify j fun e => { e with key := a.eval q, val := a.eval v }) clock R l1 l3 ⟨⟨l.set i0 { e' with key := a.eval q, val := a.eval v }, ?_, g5.set eq ev i0⟩, stamped_modify l4.st j _ (fun e _ => rfl) (fun e he hje => by rw [hj] at hje; cases hje; exact g3.symm)⟩⟩
        · unfold execOp
          rw [h]
          simp only [l2, Instr.mapUpdate, Sem.run_bind, run_underlying i5, Result.andThen_ok, Go.MapKept.run_getObj_map l3, Go.MapKept.run_checkKey hkt f1, Go.MapKept.run_findKey hkt g1, run_setObj_map _ l3, hj, Option.map_some, Option.getD_some, g3, run_keyThatStays f1]
          rfl
        · rw [hmod]
          have hil : i0 < l.length := (List.getElem?_eq_some_iff.1 g6).1
          have hjl : j < es.toList.length := (List.getElem?_eq_some_iff.1 g2).1
          exact ((set_perm l i0 _ hil).trans ((erase_perm g4 g6 g2).cons _)).trans (set_perm es.toList j _ hjl).symm
theorem run_builtin (P : Program) (w : World) (a : Act) (o : Oper) (b : Builtin) (args : Array Operand) (tys : Array TypeId) (h : o.op = .call ⟨.builtin b, args, tys⟩) :
    (execOp a.eval o).run P w = (builtin b tys o.type (args.map fun | .const _ => true | _ => false) (args.map a.eval)).run P w := by
  unfold execOp
  rw [h]
  rfl
theorem mapDel_ok (P : Program) (o : Oper) (t t' : TypeId) (x q : Operand) (args : Array Operand) (tys : Array TypeId) (ha : args.toList = [x, q]) (ht' : tys.toList = [t, t'])
    (h : o.op = .call ⟨.builtin .delete, args, tys⟩) : RunOk P o (runK (compMapDel P t (compO x) (compO q))) := by
  have ea : ∀ a : Act, args.map a.eval = #[a.eval x, a.eval q] := fun a => by apply Array.ext'; simp [ha]
  have et : tys = #[t, t'] := by apply Array.ext'; simp [ht']
  cases ht : tyAt P t with
  | none => simp only [compMapDel, ht]; exact no_ok P o
  | some ty =>
    obtain ⟨s1, s2, d, s4⟩ := ty
    obtain ⟨i, i1, i2, i3, i4, i5⟩ := tyAt_ok ht
    cases d <;> simp only [compMapDel, ht] <;> try exact no_ok P o
    rename_i kt e
    cases hkk : keyKind (tyAt P kt) with
    | none => exact no_ok P o
    | some kd =>
    have hkt := keyKind_ok hkk
    have opx : ∀ {ρ : Emb} {fr : F} {a : Act}, ORel ρ fr a o.op.operands.toList → VRel ρ (oV (compO x) fr) (a.eval x) := fun A => A x (by rw [h]; simp [Op.operands, Call.operands, ← Array.mem_toList_iff, ha])
    have opq : ∀ {ρ : Emb} {fr : F} {a : Act}, ORel ρ fr a o.op.operands.toList → VRel ρ (oV (compO q) fr) (a.eval q) := fun A => A q (by rw [h]; simp [Op.operands, Call.operands, ← Array.mem_toList_iff, ha])
    intro cf _ fr hp k hk
    simp only [runK_mk, doMapDel, oE_eq] at hk
    have hs : still P o.op = false := by rw [h]; rfl
    cases hx : oV (compO x) fr <;> rw [hx] at hk <;> try exact Bool.noConfusion hk
    · obtain ⟨b, hb, _⟩ := optK_ok hk
      refine ⟨.tu [], hp, fun k' => by simp only [runK_mk, doMapDel, oE_eq, hx, vM, hb, optK_some], KeepF.refl _, Nat.le_refl _, fun ρ a w w0 A R => ?_, fun hh => by rw [hs] at hh; cases hh⟩
      have ex := opx A
      rw [hx] at ex
      have ex' : a.eval x = .map none := ex
      refine ⟨.value (.tuple #[]), w, ?_, ρ, Ext.refl _ ρ, ⟨#[], rfl, trivial⟩, R⟩
      rw [run_builtin P w a o .delete args tys h, ea, et, ex']
      unfold builtin Builtin.delete_
      simp only [List.getElem?_toArray, List.getElem?_cons_zero, List.getElem?_cons_succ, Sem.run_bind, run_underlying i5, Result.andThen_ok, Go.MapKept.run_checkKey hkt (keyEq_ok hb (opq A) (opq A)).1]
      rfl
    · rename_i id
      obtain ⟨next, floor, heap, cur, min, size, cells, n, frz, ps, rfl, hb, hm, hp', hK⟩ := mapK_ok hk
      simp only [vM] at hk
      rw [hK] at hk
      obtain ⟨r, hr, hk⟩ := optK_ok hk
      cases r with
      | none =>
        obtain ⟨hfl, hk⟩ := ifK_ok hk
        refine ⟨.tu [], ⟨next, floor, heap⟩, fun k' => by simp only [runK_mk, doMapDel, oE_eq, hx, vM, hK, hr, optK_some, hfl, ifK_true], KeepF.refl _, Nat.le_refl _, fun ρ a w w0 A R => ?_, fun hh => by rw [hs] at hh; cases hh⟩
        have ex := opx A
        rw [hx] at ex
        obtain ⟨L, es, clock, l1, l2, l3, l4⟩ := map_world R ex hb hm hp'
        obtain ⟨f1, f2, f3⟩ := find_world l4 (opq A) hr
        rcases f3 with ⟨_, g1, g2⟩ | ⟨i, _, _, _, _, g, _⟩
        · have hsame : w.heap.setIfInBounds L.b (.map es clock) = w.heap := by
            apply Array.ext_getElem?
            intro i
            by_cases e : i = L.b
            · subst e; rw [(heap_set l3).1, l3]
            · exact (heap_set l3).2 i e
          refine ⟨.value (.tuple #[]), w, ?_, ρ, Ext.refl _ ρ, ⟨#[], rfl, trivial⟩, R⟩
          rw [run_builtin P w a o .delete args tys h, ea, et, l2]
          unfold builtin Builtin.delete_
          simp only [List.getElem?_toArray, List.getElem?_cons_zero, List.getElem?_cons_succ, Sem.run_bind, run_underlying i5, Result.andThen_ok, Go.MapKept.run_getObj_map l3, Go.MapKept.run_checkKey hkt f1, Go.MapKept.run_findKey hkt g1, run_setObj_map _ l3, hsame]
          rfl
        · cases g
      | some i0 =>
        obtain ⟨h', p1, p2, p3, p4⟩ := putM_ok hb hm hp' hk
        refine ⟨.tu [], h', fun k' => by simp only [runK_mk, doMapDel, oE_eq, hx, vM, hK, hr, optK_some, p1], p2, by rw [p3]; exact Nat.le_refl _, fun ρ a w w0 A R => ?_, fun hh => by rw [hs] at hh; cases hh⟩
        have ex := opx A
        rw [hx] at ex
        obtain ⟨L, es, clock, l1, l2, l3, l4⟩ := map_world R ex hb hm hp'
        obtain ⟨f1, f2, f3⟩ := find_world l4 (opq A) hr
        rcases f3 with ⟨g, _⟩ | ⟨i', j, e', l, kv, g, g1, g2, g3, g4, g5, g6, g7, g8, g9⟩
        · cases g
        · cases g
          have hjl : j < es.size := by have := (List.getElem?_eq_some_iff.1 g2).1; simpa using this
          refine ⟨.value (.tuple #[]), _, ?_, ρ, Ext.refl _ ρ, ⟨#[], rfl, trivial⟩, p4 ρ w w0 L es clock (es.eraseIdxIfInBounds j) clock R l1 l3 ⟨⟨l.eraseIdx i0, ?_, g5.erase i0⟩, stamped_erase l4.st j⟩⟩
          · rw [run_builtin P w a o .delete args tys h, ea, et, l2]
            unfold builtin Builtin.delete_
            simp only [List.getElem?_toArray, List.getElem?_cons_zero, List.getElem?_cons_succ, Sem.run_bind, run_underlying i5, Result.andThen_ok, Go.MapKept.run_getObj_map l3, Go.MapKept.run_checkKey hkt f1, Go.MapKept.run_findKey hkt g1, run_setObj_map _ l3]
            rfl
          · unfold Array.eraseIdxIfInBounds
            rw [dif_pos hjl, Array.toList_eraseIdx]
            exact erase_perm g4 g6 g2
theorem mapLen_ok (P : Program) (o : Oper) (t kt e : TypeId) (x : Operand) (args : Array Operand) (tys : Array TypeId) (ha : args.toList = [x]) (ht' : tys.toList = [t]) (hm' : isMapT P (some t) = true) (hu : P.underlying t = some (.map kt e))
    (h : o.op = .call ⟨.builtin .len, args, tys⟩) : RunOk P o (doMapLen (compO x)) := by
  have ea : ∀ a : Act, args.map a.eval = #[a.eval x] := fun a => by apply Array.ext'; simp [ha]
  have et : tys = #[t] := by apply Array.ext'; simp [ht']
  have hs : still P o.op = false := by
    rw [h]
    show (!isMapT P tys.toList.head?) = false
    rw [ht']
    show (!isMapT P (some t)) = false
    rw [hm']; rfl
  refine RunOk.pure hs fun cf fr hp k hk => ?_
  simp only [doMapLen, oE_eq] at hk
  cases hx : oV (compO x) fr <;> rw [hx] at hk <;> try exact Bool.noConfusion hk
  · refine ⟨.i .i64 (.ofNat 0), fun k' => by simp only [doMapLen, oE_eq, hx, vM], fun ρ a A w w0 R => ?_⟩
    have ex := A x (by rw [h]; simp [Op.operands, Call.operands, ← Array.mem_toList_iff, ha])
    rw [hx] at ex
    have ex' : a.eval x = .map none := ex
    refine ⟨.int .i64 0, ?_, rfl⟩
    rw [run_builtin P w a o .len args tys h, ea, et, ex']
    unfold builtin Builtin.len_
    simp only [List.getElem?_toArray, List.getElem?_cons_zero, Sem.run_bind, run_underlying hu, Result.andThen_ok]
    rfl
  · rename_i id
    obtain ⟨next, floor, heap, cur, min, size, cells, n, frz, ps, rfl, hb, hm, hp', hK⟩ := mapK_ok hk
    refine ⟨.i .i64 (.ofNat ps.length), fun k' => by simp only [doMapLen, oE_eq, hx, vM, hK], fun ρ a A w w0 R => ?_⟩
    have ex := A x (by rw [h]; simp [Op.operands, Call.operands, ← Array.mem_toList_iff, ha])
    rw [hx] at ex
    obtain ⟨L, es, clock, l1, l2, l3, l4⟩ := map_world R ex hb hm hp'
    obtain ⟨l, m1, m2⟩ := l4.rel
    have hsz : es.size = ps.length := by
      have := m1.length_eq
      rw [m2.length, this]; simp
    refine ⟨.int .i64 (es.size : Int), ?_, by rw [hsz]; rfl⟩
    rw [run_builtin P w a o .len args tys h, ea, et, l2]
    unfold builtin Builtin.len_
    simp only [List.getElem?_toArray, List.getElem?_cons_zero, Sem.run_bind, run_underlying hu, Result.andThen_ok, Go.MapKept.run_getObj_map l3]
    rfl
theorem newM_ok {h : H} {k : V → H → Bool} (hk : doMakeMap.newM h k = true) :
    ∃ h', (∀ k', doMakeMap.newM h k' = k' (.m h.next) h') ∧ KeepF h h' ∧ B.val h.next ≤ B.val h'.next ∧
      ∀ ρ w w0, HRel ρ h w w0 → Done h.floor ρ w0 (.m h.next) h' (.map (some w.heap.size)) (w.alloc (.map #[] 0)) := by
  obtain ⟨next, floor, heap⟩ := h
  obtain ⟨hp, h4, h5, h6⟩ := setK_ok next (⟨0, 7, 0, .o, 0, 0⟩ : Blk) heap
  obtain ⟨nx, h7, h8⟩ := incK_ok next
  refine ⟨⟨nx, floor, hp⟩, fun k' => by unfold doMakeMap.newM; simp only [hK_mk]; rw [h4, h7], ⟨rfl, fun hf id hid => h6 id (fun e => by rw [e] at hid; exact absurd hf (Nat.not_le.2 hid))⟩, by show B.val next ≤ B.val nx; omega, fun ρ w w0 R => ?_⟩
  have hnone : ρ next 0 = none := by
    cases hr : ρ next 0 with
    | none => rfl
    | some L => have := R.ids _ _ _ hr; exact absurd this (Nat.lt_irrefl _)
  have hne : ∀ id g L, ρ id g = some L → ¬ (id = next) := fun id g L hr he => by
    have := R.ids _ _ _ hr; rw [he] at this; exact absurd this (Nat.lt_irrefl _)
  have hle := Emb.put_le (⟨w.heap.size, 0, 0, 0, none⟩ : Loc) hnone
  refine ⟨ρ.put next 0 ⟨w.heap.size, 0, 0, 0, none⟩, Ext.put hnone R.flo, ⟨_, Emb.put_same _ _ _ _, rfl⟩, ?_⟩
  have hcase : ∀ {id g L}, ρ.put next 0 ⟨w.heap.size, 0, 0, 0, none⟩ id g = some L → (id = next ∧ g = 0 ∧ L = ⟨w.heap.size, 0, 0, 0, none⟩) ∨ ρ id g = some L := by
    intro id g L hL
    by_cases e : id = next ∧ g = 0
    · left; obtain ⟨rfl, rfl⟩ := e; rw [Emb.put_same] at hL; exact ⟨rfl, rfl, (Option.some.inj hL).symm⟩
    · right; rwa [Emb.put_other _ _ _ _ e] at hL
  refine ⟨fun id g L hL => ?_, fun id g L hL => ?_, fun id g L id' g' L' hL hL' hb => ?_, ?_, fun b hb => ?_, fun id g L hL hf => ?_, R.tp, R.os, R.out, by rw [alloc_size]; exact Nat.le_succ_of_le R.siz, fun id L blk hL hblk kc hm => ?_, R.ito.of fun id g L blk hL hblk hg hm => ?_⟩
  · rcases hcase hL with ⟨rfl, rfl, rfl⟩ | hL
    · exact ⟨_, h5, Nat.le_refl _, by rw [alloc_size]; exact Nat.lt_succ_self _, Nat.le_refl _, fun _ => Nat.le_refl _, fun _ => rfl, fun hm => by have hm : 7 ≤ 0 := hm; omega⟩
    · obtain ⟨blk, a1, a2, a3, a4, a5, a6, a7⟩ := R.loc _ _ _ hL
      refine ⟨blk, (h6 id (hne _ _ _ hL)).trans a1, a2, by rw [alloc_size]; omega, a4, a5, a6, fun hm => ?_⟩
      obtain ⟨c', el', b1, b2, b3, b4⟩ := a7 hm
      refine ⟨c', el', b1.congr (alloc_get_old _ _ a3), b2, b3, fun i i1 i2 => ?_⟩
      obtain ⟨v, x, d1, d2, d3⟩ := b4 i i1 i2
      exact ⟨v, x, d1, d2, VRel.up hle _ _ d3⟩
  · show B.val id < B.val nx
    rcases hcase hL with ⟨rfl, rfl, rfl⟩ | hL
    · rw [h8]; exact Nat.lt_succ_self _
    · have : B.val id < B.val next := R.ids _ _ _ hL
      rw [h8]; omega
  · rcases hcase hL with ⟨i1, i2, i3⟩ | hM <;> rcases hcase hL' with ⟨j1, j2, j3⟩ | hM'
    · exact ⟨i1.trans j1.symm, by rw [i3, j3]⟩
    · obtain ⟨_, _, _, a3, _⟩ := R.loc _ _ _ hM'
      rw [← hb, i3] at a3; exact absurd a3 (Nat.lt_irrefl _)
    · obtain ⟨_, _, _, a3, _⟩ := R.loc _ _ _ hM
      rw [hb, j3] at a3; exact absurd a3 (Nat.lt_irrefl _)
    · exact R.sep _ _ _ _ _ _ hM hM' hb
  · show B.val floor ≤ B.val nx
    have : B.val floor ≤ B.val next := R.flo
    rw [h8]; omega
  · rw [alloc_get_old _ _ (Nat.lt_of_lt_of_le hb R.siz)]
    exact R.old b hb
  · rcases hcase hL with ⟨rfl, rfl, rfl⟩ | hL
    · exact R.siz
    · exact R.up _ _ _ hL hf
  · rcases hcase hL with ⟨rfl, _, rfl⟩ | hL
    · have hb2 : hp.get id = some blk := hblk
      rw [h5] at hb2
      have hb3 := Option.some.inj hb2
      subst hb3
      cases kc with
      | true => exact absurd hm (by show ¬ 7 = 0 + 11; decide)
      | false => exact ⟨_, alloc_get_new _ _, #[], 0, rfl, [], ⟨rfl, fun i kv hi => by simp at hi⟩, ⟨⟨[], .nil, .nil⟩, stamped_empty 0⟩⟩
    · obtain ⟨_, _, _, a3, _⟩ := R.loc _ _ _ hL
      obtain ⟨o, q1, q2⟩ := R.mp id L blk hL ((h6 id (hne _ _ _ hL)).symm.trans hblk) kc hm
      exact ⟨o, (alloc_get_old _ _ a3).trans q1, q2.up hle⟩
  · rcases hcase hL with ⟨rfl, _, rfl⟩ | hL
    · have hb2 : hp.get id = some blk := hblk
      rw [h5] at hb2
      have hb3 := Option.some.inj hb2
      subst hb3
      have hm : 7 = 0 + 9 := hm
      exact absurd hm (by decide)
    · obtain ⟨_, _, _, a3, _⟩ := R.loc _ _ _ hL
      exact ⟨hL, (h6 id (hne _ _ _ hL)).symm.trans hblk, alloc_get_old _ _ a3⟩
theorem makeMap_ok (P : Program) (o : Oper) (t : TypeId) (r : Option Operand) (h : o.op = .makeMap t r) : RunOk P o (runK (compMakeMap P t (r.map compO))) := by
  cases ht : tyAt P t with
  | none => simp only [compMakeMap, ht]; exact no_ok P o
  | some ty =>
    obtain ⟨s1, s2, d, s4⟩ := ty
    obtain ⟨i, i1, i2, i3, i4, i5⟩ := tyAt_ok ht
    cases d <;> simp only [compMakeMap, ht] <;> try exact no_ok P o
    intro cf _ fr hp k hk
    cases r with
    | none =>
      have hk' : doMakeMap.newM hp k = true := hk
      obtain ⟨h', p1, p2, p3, p4⟩ := newM_ok hk'
      refine ⟨_, h', fun k' => p1 k', p2, p3, fun ρ a w w0 A R => ?_, fun hs => by rw [h] at hs; exact Bool.noConfusion hs⟩
      exact ⟨.value (.map (some w.heap.size)), w.alloc (.map #[] 0), by unfold execOp; rw [h]; rfl, p4 ρ w w0 R⟩
    | some r =>
      simp only [runK_mk, doMakeMap, Option.map_some, oE_eq] at hk
      obtain ⟨kd, n, hv, hk⟩ := vI_ok hk
      obtain ⟨h', p1, p2, p3, p4⟩ := newM_ok hk
      refine ⟨.m hp.next, h', fun k' => by simp only [runK_mk, doMakeMap, Option.map_some, oE_eq, hv, vI_i, p1], p2, p3, fun ρ a w w0 A R => ?_, fun hs => by rw [h] at hs; exact Bool.noConfusion hs⟩
      have er := A r (by rw [h]; simp [Op.operands])
      rw [hv] at er
      have er' : a.eval r = .int kd n := er
      refine ⟨.value (.map (some w.heap.size)), w.alloc (.map #[] 0), ?_, p4 ρ w w0 R⟩
      unfold execOp
      rw [h]
      simp only [Option.map_some, er', Instr.makeMap, Sem.run_bind, run_underlying i5, Result.andThen_ok]
      rfl
end Go.Ev

set_option linter.all false
namespace Go.Ev
open Go Go.MapKept Go.Conc
theorem vC_ok {v : V} {z : Unit → Bool} {k : B → Bool} (h : vC v z k = true) : (v = .c0 ∧ z () = true) ∨ ∃ id, v = .c id ∧ k id = true := by
  cases v <;> first | exact .inl ⟨rfl, h⟩ | exact .inr ⟨_, rfl, h⟩ | exact Bool.noConfusion h
theorem ChRd.uniq {t : T V} {n : Nat} {vs ws : List V} (a : ChRd t n vs) (b : ChRd t n ws) : vs = ws := by
  apply List.ext_getElem (by rw [a.1, b.1])
  intro i h1 h2
  have e1 : vs[i]? = some vs[i] := by simp
  have e2 : ws[i]? = some ws[i] := by simp
  have b1 := a.2 i _ e1
  rw [b.2 i _ e2] at b1
  exact (Option.some.inj b1).symm
theorem chK_ok {h : H} {id : B} {k : B → B → T Blk → Nat → Nat → Nat → Nat → Nat → List V → Bool} (hk : chK h id k = true) :
    ∃ next floor heap cur min size cells n fr vs, h = ⟨next, floor, heap⟩ ∧ heap.get id = some ⟨cur, min, size, cells, n, fr⟩ ∧ min = cur + 11 ∧ ChRd cells (n / 2) vs ∧ ∀ k', chK h id k' = k' next floor heap cur min size fr (n % 2) vs := by
  obtain ⟨next, floor, heap⟩ := h
  simp only [chK, hK_mk] at hk
  obtain ⟨⟨cur, min, size, cells, n, fr⟩, hb, hk⟩ := optK_ok hk
  simp only [blkK_mk] at hk
  obtain ⟨hm, hk⟩ := ifK_ok hk
  obtain ⟨vs, h1, h2, h3⟩ := getList_ok _ _ _ _ hk
  refine ⟨next, floor, heap, cur, min, size, cells, n, fr, vs, rfl, hb, Nat.eq_of_beq_eq_true hm, ⟨h2, fun i v hi => ?_⟩, fun k' => ?_⟩
  · have hl : i < n.div 2 := by
      rw [← h2]; exact (List.getElem?_eq_some_iff.1 hi).1
    have := h3 i hl
    rw [Nat.zero_add] at this
    rw [this]; exact hi
  · simp only [chK, hK_mk, hb, optK_some, blkK_mk, hm, ifK_true, h1]; rfl
theorem ch_world {ρ : Emb} {h : H} {w w0 : World} {id : B} {x : Value} {blk : Blk} {vs : List V} (R : HRel ρ h w w0) (hv : VRel ρ (.c id) x) (hb : h.heap.get id = some blk) (hm : blk.min = blk.cur + 11) (hp : ChRd blk.cells (blk.el / 2) vs) :
    ∃ L buf s r, ρ id 0 = some L ∧ x = .chan (some L.b) ∧ w.heap[L.b]? = some (.chan blk.size buf (Nat.beq (blk.el % 2) 1) s r false) ∧ LRel ρ vs buf.toList := by
  obtain ⟨L, h1, h2⟩ := hv
  obtain ⟨o, h3, buf, s, r, ws, rfl, h4, h5⟩ := R.mp id L blk h1 hb true hm
  obtain rfl := hp.uniq h4
  exact ⟨L, buf, s, r, h1, h2, h3, h5⟩
theorem putC_ok {next floor : B} {heap : T Blk} {id : B} {cur min size fr sh : Nat} {cells : T V} {n : Nat} {ws : List V} {k : H → Bool} (hb : heap.get id = some ⟨cur, min, size, cells, n, fr⟩) (hm : min = cur + 11) (hsh : sh < 2)
    (hk : putC next floor heap id cur min size fr sh ws k = true) :
    ∃ h', (∀ k', putC next floor heap id cur min size fr sh ws k' = k' h') ∧ KeepF ⟨next, floor, heap⟩ h' ∧ h'.next = next ∧
      ∀ ρ w w0 L o buf s r, HRel ρ ⟨next, floor, heap⟩ w w0 → ρ id 0 = some L → w.heap[L.b]? = some o → LRel ρ ws buf.toList → HRel ρ h' (w.setChan L.b size buf (Nat.beq sh 1) s r false) w0 := by
  unfold putC at hk
  obtain ⟨hfl, hk⟩ := ifK_ok hk
  obtain ⟨t, h1, h2, h3⟩ := setList_ok _ _ _ _ hk
  obtain ⟨hp', h4, h5, h6⟩ := setK_ok id (⟨cur, min, size, t, 2 * ws.length + sh, fr⟩ : Blk) heap
  refine ⟨⟨next, floor, hp'⟩, fun k' => by unfold putC; rw [hfl]; simp only [ifK_true]; rw [h1, fN_eq]; exact h4 _, ⟨rfl, fun hf i hi => h6 i (fun e => by rw [e] at hi; exact absurd (geB_ok hfl) (Nat.not_le.2 hi))⟩, rfl, fun ρ w w0 L o buf s r R hL hwb m => ?_⟩
  unfold World.setChan
  have oth : ∀ {i : B} {g : Nat} {M : Loc}, ρ i g = some M → i ≠ id → ({ w with heap := w.heap.setIfInBounds L.b (.chan size buf (Nat.beq sh 1) s r false) } : World).heap[M.b]? = w.heap[M.b]? := fun {i g M} hM hi => setHeap_other hwb fun e => hi (R.sep _ _ _ _ _ _ hM hL e).1
  refine ⟨fun i g M hM => ?_, R.ids, R.sep, R.flo, fun b hb' => ?_, R.up, R.tp, R.os, R.out, by rw [setHeap_size]; exact R.siz, fun i M blk hM hblk kc hmm => ?_, R.ito.of fun i g M blk hM hblk hg hmm => ?_⟩
  · obtain ⟨blk, a1, a2, a3, a4, a5, a6, a7⟩ := R.loc _ _ _ hM
    by_cases hi : i = id
    · subst hi
      have hbe : blk = ⟨cur, min, size, cells, n, fr⟩ := by
        have : heap.get i = some blk := a1
        rw [hb] at this; exact (Option.some.inj this).symm
      subst hbe
      refine ⟨_, h5, a2, by rw [setHeap_size]; exact a3, a4, a5, a6, fun hmg => ?_⟩
      have h1' : g ≤ cur := a2
      have h2' : min ≤ g := hmg
      omega
    · refine ⟨blk, (h6 i hi).trans a1, a2, by rw [setHeap_size]; exact a3, a4, a5, a6, fun hmg => ?_⟩
      obtain ⟨c, el, b1, b2, b3, b4⟩ := a7 hmg
      exact ⟨c, el, b1.congr (oth hM hi), b2, b3, b4⟩
  · rw [setHeap_other hwb]
    · exact R.old b hb'
    · have := R.up _ _ _ hL (geB_ok hfl); omega
  · by_cases hi : i = id
    · subst hi
      have hb2 : hp'.get i = some blk := hblk
      rw [h5] at hb2
      have hb3 := Option.some.inj hb2
      subst hb3
      have : M = L := by rw [hM] at hL; exact Option.some.inj hL
      subst this
      cases kc with
      | false => exact absurd hmm (by show ¬ min = cur + 7; omega)
      | true =>
      refine ⟨_, setHeap_get hwb, buf, s, r, ws, ?_, ⟨?_, fun j v hj => ?_⟩, m⟩
      · show _ = Obj.chan size buf (Nat.beq ((2 * ws.length + sh) % 2) 1) s r false
        rw [show (2 * ws.length + sh) % 2 = sh by omega]
      · show ws.length = (2 * ws.length + sh) / 2
        omega
      · have := h2 _ _ hj; rwa [Nat.zero_add] at this
    · obtain ⟨o1, q1, q2⟩ := R.mp i M blk hM ((h6 i hi).symm.trans hblk) kc hmm
      exact ⟨o1, (oth hM hi).trans q1, q2⟩
  · by_cases hi : i = id
    · subst hi
      have hb2 : hp'.get i = some blk := hblk
      rw [h5] at hb2
      have hb3 := Option.some.inj hb2
      subst hb3
      have hmm : min = cur + 9 := hmm
      omega
    · exact ⟨hM, (h6 i hi).symm.trans hblk, oth hM hi⟩
theorem newC_ok {h : H} {n : Nat} : ∃ h', (∀ k' : V → H → Bool, (hK h fun next floor heap => T.setK next ⟨0, 11, n, .o, 0, 0⟩ heap fun heap => B.incK next fun next' => k' (.c next) ⟨next', floor, heap⟩) = k' (.c h.next) h') ∧ KeepF h h' ∧ B.val h.next ≤ B.val h'.next ∧
      ∀ ρ w w0, HRel ρ h w w0 → Done h.floor ρ w0 (.c h.next) h' (.chan (some w.heap.size)) (w.alloc (.chan n #[] false 0 0 false)) := by
  obtain ⟨next, floor, heap⟩ := h
  obtain ⟨hp, h4, h5, h6⟩ := setK_ok next (⟨0, 11, n, .o, 0, 0⟩ : Blk) heap
  obtain ⟨nx, h7, h8⟩ := incK_ok next
  refine ⟨⟨nx, floor, hp⟩, fun k' => by simp only [hK_mk]; rw [h4, h7], ⟨rfl, fun hf id hid => h6 id (fun e => by rw [e] at hid; exact absurd hf (Nat.not_le.2 hid))⟩, by show B.val next ≤ B.val nx; omega, fun ρ w w0 R => ?_⟩
  have hnone : ρ next 0 = none := by
    cases hr : ρ next 0 with
    | none => rfl
    | some L => have := R.ids _ _ _ hr; exact absurd this (Nat.lt_irrefl _)
  have hne : ∀ id g L, ρ id g = some L → ¬ (id = next) := fun id g L hr he => by
    have := R.ids _ _ _ hr; rw [he] at this; exact absurd this (Nat.lt_irrefl _)
  have hle := Emb.put_le (⟨w.heap.size, 0, n, 0, none⟩ : Loc) hnone
  refine ⟨ρ.put next 0 ⟨w.heap.size, 0, n, 0, none⟩, Ext.put hnone R.flo, ⟨_, Emb.put_same _ _ _ _, rfl⟩, ?_⟩
  have hcase : ∀ {id g L}, ρ.put next 0 ⟨w.heap.size, 0, n, 0, none⟩ id g = some L → (id = next ∧ g = 0 ∧ L = ⟨w.heap.size, 0, n, 0, none⟩) ∨ ρ id g = some L := by
    intro id g L hL
    by_cases e : id = next ∧ g = 0
    · left; obtain ⟨rfl, rfl⟩ := e; rw [Emb.put_same] at hL; exact ⟨rfl, rfl, (Option.some.inj hL).symm⟩
    · right; rwa [Emb.put_other _ _ _ _ e] at hL
  refine ⟨fun id g L hL => ?_, fun id g L hL => ?_, fun id g L id' g' L' hL hL' hb => ?_, ?_, fun b hb => ?_, fun id g L hL hf => ?_, R.tp, R.os, R.out, by rw [alloc_size]; exact Nat.le_succ_of_le R.siz, fun id L blk hL hblk kc hm => ?_, R.ito.of fun id g L blk hL hblk hg hm => ?_⟩
  · rcases hcase hL with ⟨rfl, rfl, rfl⟩ | hL
    · exact ⟨_, h5, Nat.le_refl _, by rw [alloc_size]; exact Nat.lt_succ_self _, Nat.zero_le _, fun _ => Nat.le_refl _, fun _ => rfl, fun hm => by have hm : 11 ≤ 0 := hm; omega⟩
    · obtain ⟨blk, a1, a2, a3, a4, a5, a6, a7⟩ := R.loc _ _ _ hL
      refine ⟨blk, (h6 id (hne _ _ _ hL)).trans a1, a2, by rw [alloc_size]; omega, a4, a5, a6, fun hm => ?_⟩
      obtain ⟨c', el', b1, b2, b3, b4⟩ := a7 hm
      refine ⟨c', el', b1.congr (alloc_get_old _ _ a3), b2, b3, fun i i1 i2 => ?_⟩
      obtain ⟨v, x, d1, d2, d3⟩ := b4 i i1 i2
      exact ⟨v, x, d1, d2, VRel.up hle _ _ d3⟩
  · show B.val id < B.val nx
    rcases hcase hL with ⟨rfl, rfl, rfl⟩ | hL
    · rw [h8]; exact Nat.lt_succ_self _
    · have : B.val id < B.val next := R.ids _ _ _ hL
      rw [h8]; omega
  · rcases hcase hL with ⟨i1, i2, i3⟩ | hM <;> rcases hcase hL' with ⟨j1, j2, j3⟩ | hM'
    · exact ⟨i1.trans j1.symm, by rw [i3, j3]⟩
    · obtain ⟨_, _, _, a3, _⟩ := R.loc _ _ _ hM'
      rw [← hb, i3] at a3; exact absurd a3 (Nat.lt_irrefl _)
    · obtain ⟨_, _, _, a3, _⟩ := R.loc _ _ _ hM
      rw [hb, j3] at a3; exact absurd a3 (Nat.lt_irrefl _)
    · exact R.sep _ _ _ _ _ _ hM hM' hb
  · show B.val floor ≤ B.val nx
    have : B.val floor ≤ B.val next := R.flo
    rw [h8]; omega
  · rw [alloc_get_old _ _ (Nat.lt_of_lt_of_le hb R.siz)]
    exact R.old b hb
  · rcases hcase hL with ⟨rfl, rfl, rfl⟩ | hL
    · exact R.siz
    · exact R.up _ _ _ hL hf
  · rcases hcase hL with ⟨rfl, _, rfl⟩ | hL
    · have hb2 : hp.get id = some blk := hblk
      rw [h5] at hb2
      have hb3 := Option.some.inj hb2
      subst hb3
      cases kc with
      | false => exact absurd hm (by show ¬ 11 = 0 + 7; decide)
      | true => exact ⟨_, alloc_get_new _ _, #[], 0, 0, [], rfl, ⟨by show 0 = 0 / 2; rfl, fun i v hi => by simp at hi⟩, trivial⟩
    · obtain ⟨_, _, _, a3, _⟩ := R.loc _ _ _ hL
      obtain ⟨o, q1, q2⟩ := R.mp id L blk hL ((h6 id (hne _ _ _ hL)).symm.trans hblk) kc hm
      exact ⟨o, (alloc_get_old _ _ a3).trans q1, q2.up hle⟩
  · rcases hcase hL with ⟨rfl, _, rfl⟩ | hL
    · have hb2 : hp.get id = some blk := hblk
      rw [h5] at hb2
      have hb3 := Option.some.inj hb2
      subst hb3
      have hm : 11 = 0 + 9 := hm
      exact absurd hm (by decide)
    · obtain ⟨_, _, _, a3, _⟩ := R.loc _ _ _ hL
      exact ⟨hL, (h6 id (hne _ _ _ hL)).symm.trans hblk, alloc_get_old _ _ a3⟩
theorem makeChan_ok (P : Program) (o : Oper) (t : TypeId) (x : Operand) (h : o.op = .makeChan t x) : RunOk P o (runK (compMakeChan P (tyAt P t) (compO x))) := by
  cases ht : tyAt P t with
  | none => exact no_ok P o
  | some ty =>
    obtain ⟨s1, s2, d, s4⟩ := ty
    obtain ⟨i, i1, i2, i3, i4, i5⟩ := tyAt_ok ht
    cases d <;> try exact no_ok P o
    rename_i dir e
    cases ht2 : tyAt P e with
    | none => simp only [compMakeChan, ht2]; exact no_ok P o
    | some ty2 =>
    obtain ⟨t1, bytes, t3, t4⟩ := ty2
    obtain ⟨j, j1, j2, j3, j4, j5⟩ := tyAt_ok ht2
    cases hby : Nat.ble bytes 65536 with
    | false => simp only [compMakeChan, ht2, hby]; exact no_ok P o
    | true =>
    simp only [compMakeChan, ht2, hby]
    have hby' : bytes ≤ 65536 := Nat.le_of_ble_eq_true hby
    intro cf _ fr hp k hk
    simp only [runK_mk, doMakeChan, oE_eq] at hk
    obtain ⟨kd, n, hv, hk⟩ := vI_ok hk
    obtain ⟨m, rfl, hk⟩ := natK_ok hk
    obtain ⟨hc, hk⟩ := ifK_ok hk
    have hm : m ≤ 1048576 := Nat.le_of_ble_eq_true hc
    obtain ⟨h', p1, p2, p3, p4⟩ := newC_ok (h := hp) (n := m)
    refine ⟨.c hp.next, h', fun k' => by simp only [runK_mk, doMakeChan, oE_eq, hv, vI_i, natK_ofNat, hc, ifK_true]; exact p1 k', p2, p3, fun ρ a w w0 A R => ?_, fun hs => by rw [h] at hs; exact Bool.noConfusion hs⟩
    have er := A x (by rw [h]; simp [Op.operands])
    rw [hv] at er
    have er' : a.eval x = .int kd (Int.ofNat m) := er
    refine ⟨.value (.chan (some w.heap.size)), w.alloc (.chan m #[] false 0 0 false), ?_, p4 ρ w w0 R⟩
    unfold execOp
    rw [h]
    have wl : IntKind.i64.wrap (Int.ofNat m) = Int.ofNat m := wrap_small .i64 m (by simp only [mxOf]; omega)
    have hb0 : bytes * m ≤ 68719476736 := by have := Nat.mul_le_mul hby' hm; omega
    simp only [run_v, Instr.makeChan, er', asInt, asIntOf, Sem.run_bind, Result.andThen_ok, run_underlying i5, Sem.run_pure', run_typeInfo' j1, wl, j3]
    rw [if_neg (by
      have h2 : ((bytes : Nat) : Int) * (m : Int) ≤ 68719476736 := by rw [← Int.natCast_mul]; omega
      simp only [IntKind.max, IntKind.signed, IntKind.bits]
      simp
      omega)]
    simp only [Sem.run_bind, Sem.run_pure', Result.andThen_ok]
    rfl
theorem close_ok (P : Program) (o : Oper) (x : Operand) (args : Array Operand) (tys : Array TypeId) (ha : args.toList = [x])
    (h : o.op = .call ⟨.builtin .close, args, tys⟩) : RunOk P o (runK ⟨doClose (compO x)⟩) := by
  have ea : ∀ a : Act, args.map a.eval = #[a.eval x] := fun a => by apply Array.ext'; simp [ha]
  intro cf _ fr hp k hk
  simp only [runK_mk, doClose, oE_eq] at hk
  have hs : still P o.op = false := by rw [h]; rfl
  rcases vC_ok hk with ⟨_, hk⟩ | ⟨id, hx, hk⟩
  · exact Bool.noConfusion hk
  obtain ⟨next, floor, heap, cur, min, size, cells, n, frz, vs, rfl, hb, hm, hp', hK⟩ := chK_ok hk
  rw [hK] at hk
  obtain ⟨hsh, hk⟩ := ifK_ok hk
  obtain ⟨h', q1, q2, q3, q4⟩ := putC_ok hb hm (by decide) hk
  refine ⟨.tu [], h', fun k' => by simp only [runK_mk, doClose, oE_eq, hx, vC, hK, hsh, ifK_true, q1], q2, by rw [q3]; exact Nat.le_refl _, fun ρ a w w0 A R => ?_, fun hh => by rw [hs] at hh; cases hh⟩
  have ex := A x (by rw [h]; simp [Op.operands, Call.operands, ← Array.mem_toList_iff, ha])
  rw [hx] at ex
  obtain ⟨L, buf, s, r, l1, l2, l3, l4⟩ := ch_world R ex hb hm hp'
  have hsh' : n % 2 = 0 := Nat.eq_of_beq_eq_true hsh
  simp only [hsh'] at l3
  have R' := q4 ρ w w0 L _ buf s r R l1 l3 l4
  refine ⟨.value (.tuple #[]), _, ?_, ρ, Ext.refl _ ρ, ⟨#[], rfl, trivial⟩, R'⟩
  rw [run_builtin P w a o .close args tys h, ea, l2]
  unfold builtin
  simp only [run_v]
  rw [run_close_open _ _ l3]
  rfl
def CmOk (P : Program) (o : Oper) (r : RunC) : Prop := ∀ t h k, r t h k = true → ∃ v h', (∀ k', r t h k' = k' v h') ∧ KeepF h h' ∧ B.val h.next ≤ B.val h'.next ∧
  ∀ ρ a w w0, ORel ρ t a o.op.operands.toList → HRel ρ h w w0 → ∃ cases bl shp, (execOp a.eval o).run P w = .ok (.comm cases bl shp) w ∧
    ∀ fr cs es, stepG P true (Conc.G fr cs) w = .comm (Conc.G fr cs) cases bl shp w es → ∃ x w', step P (solo (Conc.G fr cs) w) = .next (solo (Conc.G (fr.finish x) cs) w') ∧ Done h.floor ρ w0 v h' x w'
theorem noC_ok (P : Program) (o : Oper) : CmOk P o fun _ _ _ => false := fun _ _ _ h => Bool.noConfusion h
theorem send_ok (P : Program) (o : Oper) (x y : Operand) (h : o.op = .send x y) : CmOk P o (doSend (compO x) (compO y)) := by
  intro fr hp k hk
  simp only [doSend, oE_eq, oK_eq] at hk
  rcases vC_ok hk with ⟨_, hk⟩ | ⟨id, hx, hk⟩
  · exact Bool.noConfusion hk
  obtain ⟨next, floor, heap, cur, min, size, cells, n, frz, vs, rfl, hb, hm, hp', hK⟩ := chK_ok hk
  rw [hK] at hk
  obtain ⟨hsh, hk⟩ := ifK_ok hk
  obtain ⟨hrm, hk⟩ := ifK_ok hk
  obtain ⟨h', q1, q2, q3, q4⟩ := putC_ok hb hm (by decide) hk
  refine ⟨.u, h', fun k' => by simp only [doSend, oE_eq, oK_eq, hx, vC, hK, hsh, hrm, ifK_true, q1], q2, by rw [q3]; exact Nat.le_refl _, fun ρ a w w0 A R => ?_⟩
  have ex := A x (by rw [h]; simp [Op.operands])
  have ey := A y (by rw [h]; simp [Op.operands])
  rw [hx] at ex
  obtain ⟨L, buf, s, r, l1, l2, l3, l4⟩ := ch_world R ex hb hm hp'
  have hsh' : n % 2 = 0 := Nat.eq_of_beq_eq_true hsh
  simp only [hsh'] at l3
  have l3' : w.heap[L.b]? = some (.chan size buf false s r false) := l3
  have hroom : buf.size < size := by
    have h1 : vs.length + 1 ≤ size := Nat.le_of_ble_eq_true hrm
    have h2 := l4.length
    simp at h2
    omega
  have R' := q4 ρ w w0 L _ (buf.push (a.eval y)) (s + 1) r R l1 l3 (by
    rw [app_eqV, Array.toList_push]
    exact LRel.append l4 ⟨ey, trivial⟩)
  refine ⟨_, _, _, by unfold execOp; rw [h]; rfl, fun fr cs es hst => ?_⟩
  rw [l2] at hst
  exact ⟨undef, _, step_lone_send_room hst l3' hroom, ρ, Ext.refl _ ρ, trivial, R'⟩
/-- what is known of one case: whether it is ready, and what comes of it -/
def CsRel (ρ : Emb) (h : H) (w : World) (v z : V) (s : Rdy) (cc : CommCase) : Prop :=
  VRel ρ z cc.zero ∧ match s with
  | .no => NoWay w cc
  | .shut => ∃ L cap s r, cc = rcase L cc.zero ∧ w.heap[L]? = some (.chan cap #[] true s r false)
  | .hd u us => ∃ id L cur size cells n fr buf s r, v = .c id ∧ h.heap.get id = some ⟨cur, cur + 11, size, cells, n, fr⟩ ∧ ChRd cells (n / 2) (u :: us) ∧ ρ id 0 = some L ∧ cc = rcase L.b cc.zero ∧
      w.heap[L.b]? = some (.chan size buf (Nat.beq (n % 2) 1) s r false) ∧ LRel ρ (u :: us) buf.toList
theorem stK_ok {h : H} {v z : V} {k : Rdy → Bool} (hk : stK h v k = true) : ∃ s, (∀ k', stK h v k' = k' s) ∧ ∀ ρ w w0 x zz, HRel ρ h w w0 → VRel ρ v x → VRel ρ z zz → CsRel ρ h w v z s { chan := x, send := none, zero := zz } := by
  unfold stK at hk
  rcases vC_ok hk with ⟨hv, hk1⟩ | ⟨id, hv, hk1⟩
  · subst hv
    refine ⟨.no, fun k' => rfl, fun ρ w w0 x zz R hx hz => ⟨hz, ?_⟩⟩
    have : x = .chan none := hx
    subst this
    exact noWay_nil none
  · subst hv
    obtain ⟨next, floor, heap, cur, min, size, cells, n, frz, vs, rfl, hb, hm, hp', hK⟩ := chK_ok hk1
    have e : ∀ k' : Rdy → Bool, stK ⟨next, floor, heap⟩ (.c id) k' = chK ⟨next, floor, heap⟩ id fun _ _ _ _ _ _ _ sh vs => k' (stOf sh vs) := fun _ => rfl
    refine ⟨stOf (n % 2) vs, fun k' => by rw [e, hK], fun ρ w w0 x zz R hx hz => ⟨hz, ?_⟩⟩
    obtain ⟨L, buf, s, r, l1, l2, l3, l4⟩ := ch_world R hx hb hm hp'
    subst hm
    cases vs with
    | cons u us => exact ⟨id, L, cur, size, cells, n, frz, buf, s, r, rfl, hb, hp', l1, by rw [l2]; rfl, l3, l4⟩
    | nil =>
      have hbe : buf = #[] := by
        have := l4.length
        simp at this
        exact Array.eq_empty_of_size_eq_zero this.symm
      subst hbe
      have l3' : w.heap[L.b]? = some (.chan size #[] (Nat.beq (n % 2) 1) s r false) := l3
      show match stOf (n % 2) [] with | .no => _ | .shut => _ | .hd u us => _
      unfold stOf
      have h2 : n % 2 = 0 ∨ n % 2 = 1 := by omega
      rcases h2 with h2 | h2
      · rw [h2] at l3' ⊢
        show NoWay w _
        rw [l2]
        exact noWay_recv l3'
      · rw [h2] at l3' ⊢
        exact ⟨L.b, size, s, r, by rw [l2]; rfl, l3'⟩
theorem popK_ok {h : H} {id : B} {u : V} {us : List V} {cur size : Nat} {cells : T V} {n fr : Nat} {k : H → Bool} (hb : h.heap.get id = some ⟨cur, cur + 11, size, cells, n, fr⟩) (hk : popK h (.c id) us k = true) :
    ∃ h', (∀ k', popK h (.c id) us k' = k' h') ∧ KeepF h h' ∧ h'.next = h.next ∧ ∀ ρ w w0 L buf s r, HRel ρ h w w0 → ρ id 0 = some L → w.heap[L.b]? = some (.chan size buf (Nat.beq (n % 2) 1) s r false) → LRel ρ (u :: us) buf.toList →
      HRel ρ h' (w.setChan L.b size (buf.extract 1 buf.size) (Nat.beq (n % 2) 1) s (r + 1) false) w0 := by
  have hk' : (chK h id fun next floor heap cur min size fr sh _ => putC next floor heap id cur min size fr sh us k) = true := hk
  obtain ⟨next, floor, heap, cur', min, size', cells', n', frz, vs, rfl, hb', hm, hp', hK⟩ := chK_ok hk'
  have hbb : heap.get id = some ⟨cur, cur + 11, size, cells, n, fr⟩ := hb
  rw [hb'] at hbb
  cases hbb
  rw [hK] at hk'
  obtain ⟨h', q1, q2, q3, q4⟩ := putC_ok hb' rfl (Nat.mod_lt _ (by decide)) hk'
  have e : ∀ k' : H → Bool, popK ⟨next, floor, heap⟩ (.c id) us k' = chK ⟨next, floor, heap⟩ id fun next floor heap cur min size fr sh _ => putC next floor heap id cur min size fr sh us k' := fun _ => rfl
  refine ⟨h', fun k' => by rw [e, hK, q1], q2, q3, fun ρ w w0 L buf s r R hL hw hl => ?_⟩
  refine q4 ρ w w0 L _ _ s (r + 1) R hL hw ?_
  have : (buf.extract 1 buf.size).toList = buf.toList.tail := by
    rw [Array.toList_extract]
    simp [List.extract_eq_drop_take]
    exact List.take_of_length_le (by simp)
  rw [this]
  cases hb3 : buf.toList with
  | nil => rw [hb3] at hl; exact hl.elim
  | cons y ys => rw [hb3] at hl; exact hl.2
theorem stsK_ok {h : H} : ∀ {vs zs : List V} {k : List Rdy → Bool}, vs.length = zs.length → stsK vs h k = true → ∃ ss, (∀ k', stsK vs h k' = k' ss) ∧ ss.length = vs.length ∧ ∀ ρ w w0 (ccs : List CommCase), HRel ρ h w w0 → ccs.length = vs.length →
    (∀ (m : Nat) v z c, vs[m]? = some v → zs[m]? = some z → ccs[m]? = some c → c.send = none ∧ VRel ρ v c.chan ∧ VRel ρ z c.zero) → ∀ (m : Nat) v z c s, vs[m]? = some v → zs[m]? = some z → ccs[m]? = some c → ss[m]? = some s → CsRel ρ h w v z s c := by
  intro vs
  induction vs with
  | nil => intro zs k hl hk; exact ⟨[], fun _ => rfl, rfl, fun ρ w w0 ccs R _ hc m v z c s hv => by simp at hv⟩
  | cons v vs ih =>
    intro zs k hl hk
    cases zs with
    | nil => simp at hl
    | cons z zs =>
    have e : ∀ k', stsK (v :: vs) h k' = stK h v fun s => stsK vs h fun ss => k' (s :: ss) := fun _ => rfl
    rw [e] at hk
    obtain ⟨s, a1, a2⟩ := stK_ok (z := z) hk
    rw [a1] at hk
    obtain ⟨ss, b1, b2, b3⟩ := ih (zs := zs) (by simpa using hl) hk
    refine ⟨s :: ss, fun k' => by rw [e, a1, b1], by simp [b2], fun ρ w w0 ccs R hcl hc m v' z' c' s' hv hz hcc hs => ?_⟩
    cases ccs with
    | nil => simp at hcl
    | cons c ccs =>
    cases m with
    | zero =>
      simp at hv hz hcc hs
      subst hv; subst hz; subst hcc; subst hs
      obtain ⟨h1, h2, h3⟩ := hc 0 v z c rfl rfl rfl
      have := a2 ρ w w0 c.chan c.zero R h2 h3
      rw [show c = { chan := c.chan, send := none, zero := c.zero } by cases c; simp at h1; rw [h1]]
      exact this
    | succ m =>
      exact b3 ρ w w0 ccs R (by simpa using hcl) (fun m v z c h1 h2 h3 => hc (m + 1) v z c (by simpa using h1) (by simpa using h2) (by simpa using h3)) m v' z' c' s' (by simpa using hv) (by simpa using hz) (by simpa using hcc) (by simpa using hs)
def isNo : Rdy → Bool
  | .no => true
  | _ => false
theorem pickS_ok : ∀ {ss : List Rdy} {j : Nat}, pickS ss = some j → ∃ s, ss[j]? = some s ∧ ∀ (m : Nat) s', m ≠ j → ss[m]? = some s' → s' = .no
  | [], j, h => by cases h
  | .no :: r, j, h => by
    have h' : (match pickS r with | some k => some (k + 1) | none => none) = some j := h
    cases hp : pickS r with
    | none => rw [hp] at h'; cases h'
    | some k =>
      rw [hp] at h'
      cases h'
      obtain ⟨s, a1, a2⟩ := pickS_ok hp
      refine ⟨s, by simpa using a1, fun m s' hm hs => ?_⟩
      cases m with
      | zero => simp at hs; exact hs.symm
      | succ m => exact a2 m s' (by omega) (by simpa using hs)
  | .shut :: r, j, h => by
    have h' : (match r.all (fun s => match s with | .no => true | _ => false) with | true => some 0 | false => none) = some j := h
    cases hp : r.all (fun s => match s with | .no => true | _ => false) with
    | false => rw [hp] at h'; cases h'
    | true =>
      rw [hp] at h'
      cases h'
      refine ⟨.shut, rfl, fun m s' hm hs => ?_⟩
      cases m with
      | zero => exact absurd rfl hm
      | succ m =>
        have := List.all_eq_true.1 hp s' (List.mem_of_getElem? (by simpa using hs))
        cases s' <;> first | rfl | exact Bool.noConfusion this
  | .hd v u :: r, j, h => by
    have h' : (match r.all (fun s => match s with | .no => true | _ => false) with | true => some 0 | false => none) = some j := h
    cases hp : r.all (fun s => match s with | .no => true | _ => false) with
    | false => rw [hp] at h'; cases h'
    | true =>
      rw [hp] at h'
      cases h'
      refine ⟨.hd v u, rfl, fun m s' hm hs => ?_⟩
      cases m with
      | zero => exact absurd rfl hm
      | succ m =>
        have := List.all_eq_true.1 hp s' (List.mem_of_getElem? (by simpa using hs))
        cases s' <;> first | rfl | exact Bool.noConfusion this
theorem comm_res {cases : Array CommCase} (hs : ∀ c ∈ cases.toList, c.send = none) (k : Int) (v : Value) (ok : Bool) :
    commResult cases .select k v ok = .tuple (#[goInt k, .bool ok] ++ (cases.zipIdx.map fun p => if (p.2 : Int) = k then v else p.1.zero)) := by
  unfold commResult
  simp only
  rw [Array.filter_eq_self.2]
  intro p hp
  obtain ⟨c, i⟩ := p
  have := Array.mem_zipIdx hp
  have hc : c ∈ cases.toList := by
    rw [this.2.2]
    exact Array.getElem_mem_toList _
  simp [hs c hc]
theorem zipIdx_get (l : List CommCase) (f : CommCase × Nat → Value) (i : Nat) : (l.toArray.zipIdx.map f).toList[i]? = (l[i]?).map fun c => f (c, i) := by
  simp [List.getElem?_zipIdx]
  cases l[i]? <;> rfl
theorem selOut_rel {ρ : Emb} {zs : List V} {ccs : List CommCase} (hl : ccs.length = zs.length) (hz : ∀ (m : Nat) z c, zs[m]? = some z → ccs[m]? = some c → VRel ρ z c.zero) (hs : ∀ c ∈ ccs, c.send = none) {j : Nat} {v : V} {x : Value} (hv : VRel ρ v x) (ok : Bool) :
    VRel ρ (selOut zs j v ok) (commResult ccs.toArray .select (j : Nat) x ok) := by
  rw [comm_res (by simpa using hs)]
  refine ⟨_, rfl, ?_⟩
  show LRel ρ (.i .i64 (.ofNat j) :: .b ok :: zs.set j v) _
  rw [Array.toList_append]
  refine ⟨rfl, rfl, LRel.of_get (by simp [hl]) fun i u y hu hy => ?_⟩
  have hy : (ccs.toArray.zipIdx.map fun p : CommCase × Nat => if (p.2 : Int) = ((j : Nat) : Int) then x else p.1.zero).toList[i]? = some y := hy
  rw [zipIdx_get] at hy
  cases hc : ccs[i]? with
  | none => rw [hc] at hy; cases hy
  | some c =>
    rw [hc] at hy
    have hy' : (if (i : Int) = (j : Int) then x else c.zero) = y := Option.some.inj hy
    rw [List.getElem?_set] at hu
    by_cases hij : j = i
    · subst hij
      rw [if_pos rfl] at hu hy'
      split at hu
      · cases hu; rw [← hy']; exact hv
      · cases hu
    · rw [if_neg hij] at hu
      rw [if_neg (by omega)] at hy'
      rw [← hy']; exact hz i u c hu hc
theorem cases_ok {P : Program} (ev : Operand → Value) : ∀ {cs : List SelectCase} {os : List O} {zs : List V}, compCases P cs = some (os, zs) → ∃ ccs : List CommCase, (∀ w, (cs.mapM fun s => (do pure { chan := ev s.chan, send := s.send.map ev, zero := ← zeroValue s.elem : CommCase } : Sem CommCase)).run P w = .ok ccs w) ∧
    os = cs.map (fun s => compO s.chan) ∧ ccs.length = cs.length ∧ zs.length = cs.length ∧ (∀ s ∈ cs, s.send = none) ∧ ∀ (m : Nat) s c, cs[m]? = some s → ccs[m]? = some c → c.send = none ∧ c.chan = ev s.chan ∧ ∀ ρ z, zs[m]? = some z → VRel ρ z c.zero
  | [], os, zs, h => by cases h; exact ⟨[], fun w => rfl, rfl, rfl, rfl, fun s hs => (by cases hs), fun m s c hs => (by simp at hs)⟩
  | ⟨c, some x, e⟩ :: r, os, zs, h => by cases h
  | ⟨c, none, e⟩ :: r, os, zs, h => by
    have h' : (match zeroV P e, compCases P r with | some z, some (os, zs) => some (compO c :: os, z :: zs) | _, _ => none) = some (os, zs) := h
    cases hz : zeroV P e with
    | none => rw [hz] at h'; cases h'
    | some z =>
      cases hr : compCases P r with
      | none => rw [hz, hr] at h'; cases h'
      | some p =>
        obtain ⟨os', zs'⟩ := p
        rw [hz, hr] at h'
        cases h'
        obtain ⟨ccs, a1, a2, a3, a4, a5, a6⟩ := cases_ok ev hr
        obtain ⟨zv, z1, _⟩ := zeroV_ok hz (fun _ _ => none)
        refine ⟨{ chan := ev c, send := none, zero := zv } :: ccs, fun w => ?_, by rw [a2]; rfl, by simp [a3], by simp [a4], fun s hs => ?_, fun m s cc hs hcc => ?_⟩
        · rw [List.mapM_cons]
          simp only [Sem.run_bind, z1, Result.andThen_ok, Sem.run_pure', a1, Option.map_none]
          try rfl
        · cases hs with
          | head => rfl
          | tail _ hs => exact a5 s hs
        · cases m with
          | zero =>
            simp at hs hcc
            subst hs; subst hcc
            refine ⟨rfl, rfl, fun ρ z' hz' => ?_⟩
            simp at hz'
            subst hz'
            obtain ⟨zv', y1, y2⟩ := zeroV_ok hz ρ
            have : zv' = zv := by
              have := (y1 default).symm.trans (z1 default)
              cases this; rfl
            rw [← this]; exact y2
          | succ m => exact a6 m s cc (by simpa using hs) (by simpa using hcc) 
theorem select_ok (P : Program) (o : Oper) (cs : Array SelectCase) (bl : Bool) (h : o.op = .select cs bl) : CmOk P o (cmK (compSel P cs.toList)) := by
  unfold compSel
  cases hc : compCases P cs.toList with
  | none => exact noC_ok P o
  | some p =>
  obtain ⟨os, zs⟩ := p
  intro fr hp k hk
  obtain ⟨_, _, b2, _⟩ := cases_ok (P := P) (fun _ => default) hc
  have e : ∀ k', cmK ⟨doSelect os zs⟩ fr hp k' = (ifK (Nat.beq (cs.toList.map fun s => oV (compO s.chan) fr).length zs.length) fun _ => stsK (cs.toList.map fun s => oV (compO s.chan) fr) hp fun ss => optK (pickS ss) fun j => optK ss[j]? fun s => selGo (cs.toList.map fun s => oV (compO s.chan) fr) zs hp k' j s) := by
    intro k'
    show doSelect os zs fr hp k' = _
    unfold doSelect
    rw [b2, show (cs.toList.map fun s => compO s.chan) = (cs.toList.map (·.chan)).map compO by rw [List.map_map]; rfl, evalsK_ok, List.map_map]
    rfl
  generalize hvs : (cs.toList.map fun s => oV (compO s.chan) fr) = vs at e
  have hk : cmK ⟨doSelect os zs⟩ fr hp k = true := hk
  rw [e] at hk
  obtain ⟨hlen, hk⟩ := ifK_ok hk
  obtain ⟨ss, a1, a2, a3⟩ := stsK_ok (Nat.eq_of_beq_eq_true hlen) hk
  rw [a1] at hk
  obtain ⟨j, hj, hk⟩ := optK_ok hk
  obtain ⟨s, hs, hk⟩ := optK_ok hk
  obtain ⟨s0, p1, p2⟩ := pickS_ok hj
  rw [hs] at p1
  cases p1
  have hjl : j < vs.length := by rw [← a2]; exact (List.getElem?_eq_some_iff.1 hs).1
  have hzl : vs.length = zs.length := Nat.eq_of_beq_eq_true hlen
  obtain ⟨v, hv⟩ : ∃ v, vs[j]? = some v := ⟨_, List.getElem?_eq_getElem hjl⟩
  obtain ⟨z, hz⟩ : ∃ z, zs[j]? = some z := ⟨_, List.getElem?_eq_getElem (by omega)⟩
  -- what is known of the cases in the model
  have world : ∀ ρ a w w0, ORel ρ fr a o.op.operands.toList → HRel ρ hp w w0 → ∃ ccs : List CommCase, (execOp a.eval o).run P w = .ok (.comm ccs.toArray bl .select) w ∧ ccs.length = zs.length ∧ (∀ c ∈ ccs, c.send = none) ∧ (∀ (m : Nat) z c, zs[m]? = some z → ccs[m]? = some c → VRel ρ z c.zero) ∧
      ∀ (m : Nat) v z c s, vs[m]? = some v → zs[m]? = some z → ccs[m]? = some c → ss[m]? = some s → CsRel ρ hp w v z s c := by
    intro ρ a w w0 A R
    obtain ⟨ccs, c1, c2, c3, c4, c5, c6⟩ := cases_ok (P := P) a.eval hc
    have hsend : ∀ c ∈ ccs, c.send = none := fun c hcm => by
      obtain ⟨m, hm⟩ := List.mem_iff_getElem?.1 hcm
      have hml : m < cs.toList.length := by rw [← c3]; exact (List.getElem?_eq_some_iff.1 hm).1
      exact (c6 m _ c (List.getElem?_eq_getElem hml) hm).1
    have hzz : ∀ (m : Nat) z c, zs[m]? = some z → ccs[m]? = some c → VRel ρ z c.zero := fun m z c h1 h2 => by
      have hml : m < cs.toList.length := by rw [← c3]; exact (List.getElem?_eq_some_iff.1 h2).1
      exact (c6 m _ c (List.getElem?_eq_getElem hml) h2).2.2 ρ z h1
    refine ⟨ccs, ?_, by rw [c3, c4], hsend, hzz, ?_⟩
    · unfold execOp
      rw [h]
      simp only
      rw [Array.mapM_eq_mapM_toList]
      simp only [Sem.run_bind, Sem.run_map, c1, Result.andThen_ok]
      rfl
    · refine a3 ρ w w0 ccs R (by rw [c3, ← hvs]; simp) fun m v z c h1 h2 h3 => ?_
      have hml : m < cs.toList.length := by rw [← c3]; exact (List.getElem?_eq_some_iff.1 h3).1
      obtain ⟨d1, d2, d3⟩ := c6 m _ c (List.getElem?_eq_getElem hml) h3
      refine ⟨d1, ?_, d3 ρ z h2⟩
      rw [d2]
      rw [← hvs, List.getElem?_map, List.getElem?_eq_getElem hml] at h1
      simp at h1
      rw [← h1]
      refine A _ ?_
      rw [h]
      simp only [Op.operands, Array.toList_flatMap, List.mem_flatMap]
      exact ⟨_, List.getElem_mem hml, by simp⟩
  cases s with
  | no => exact Bool.noConfusion hk
  | shut =>
    refine ⟨selOut zs j z false, hp, fun k' => by rw [e, hlen, ifK_true, a1, hj, optK_some, hs, optK_some]; show optK zs[j]? _ = _; rw [hz]; rfl, KeepF.refl _, Nat.le_refl _, fun ρ a w w0 A R => ?_⟩
    obtain ⟨ccs, w1, w2, w3, w4, w5⟩ := world ρ a w w0 A R
    obtain ⟨c, hcc⟩ : ∃ c, ccs[j]? = some c := ⟨_, List.getElem?_eq_getElem (by omega)⟩
    obtain ⟨g1, L, cap, s', r, g2, g3⟩ := w5 j v z c .shut hv hz hcc hs
    refine ⟨_, _, _, w1, fun f cs' es hst => ⟨_, _, step_lone_sel_recv_shut hst (k := j) (by rw [g2] at hcc; simpa using hcc) (fun m c' hm hc' => ?_) g3, ρ, Ext.refl _ ρ, selOut_rel w2 w4 w3 g1 false, R⟩⟩
    have hc'' : ccs[m]? = some c' := by simpa using hc'
    have hml : m < vs.length := by rw [hzl, ← w2]; exact (List.getElem?_eq_some_iff.1 hc'').1
    have hsm : ss[m]? = some ss[m] := List.getElem?_eq_getElem (by omega)
    have := w5 m _ _ c' _ (List.getElem?_eq_getElem hml) (List.getElem?_eq_getElem (by omega)) hc'' hsm
    rw [p2 m _ hm hsm] at this
    exact this.2
  | hd u us =>
    have hk' : (optK vs[j]? fun c => popK hp c us fun h => k (selOut zs j u true) h) = true := hk
    rw [hv, optK_some] at hk'
    have hk0 := hk'
    unfold popK at hk0
    rcases vC_ok hk0 with ⟨_, hk1⟩ | ⟨id, hvc, hk1⟩
    · exact Bool.noConfusion hk1
    subst hvc
    obtain ⟨next, floor, heap, cur, min, size, cells, n, frz, ws, rfl, hb, hm, hp', hK⟩ := chK_ok hk1
    subst hm
    obtain ⟨h', q1, q2, q3, q4⟩ := popK_ok (u := u) hb hk'
    refine ⟨selOut zs j u true, h', fun k' => by rw [e, hlen, ifK_true, a1, hj, optK_some, hs, optK_some]; show optK vs[j]? _ = _; rw [hv, optK_some, q1], q2, by rw [q3]; exact Nat.le_refl _, fun ρ a w w0 A R => ?_⟩
    obtain ⟨ccs, w1, w2, w3, w4, w5⟩ := world ρ a w w0 A R
    obtain ⟨c, hcc⟩ : ∃ c, ccs[j]? = some c := ⟨_, List.getElem?_eq_getElem (by omega)⟩
    obtain ⟨g1, id', L, cur', size', cells', n', fr', buf, s', r, f1, f2, f3, f4, f5, f6, f7⟩ := w5 j _ z c (.hd u us) hv hz hcc hs
    cases f1
    have hbb : heap.get id = some ⟨cur, cur + 11, size, cells, n, frz⟩ := hb
    have f2' : heap.get id = some ⟨cur', cur' + 11, size', cells', n', fr'⟩ := f2
    rw [hbb] at f2'
    cases f2'
    have R' := q4 ρ w w0 L buf s' r R f4 f6 f7
    have hpos : 0 < buf.size := by
      have := f7.length
      simp at this
      omega
    have hu : VRel ρ u (buf.getD 0 undef) := by
      obtain ⟨y, y1, y2⟩ := f7.get (i := 0) (v := u) rfl
      have : buf.getD 0 undef = y := by
        rw [Array.getD_eq_getD_getElem?]
        have : buf[0]? = some y := by simpa using y1
        rw [this]; rfl
      rw [this]; exact y2
    refine ⟨_, _, _, w1, fun f cs' es hst => ⟨_, _, step_lone_sel_recv_buf hst (k := j) (by rw [f5] at hcc; simpa using hcc) (fun m c' hm hc' => ?_) f6 hpos, ρ, Ext.refl _ ρ, selOut_rel w2 w4 w3 hu true, R'⟩⟩
    have hc'' : ccs[m]? = some c' := by simpa using hc'
    have hml : m < vs.length := by rw [hzl, ← w2]; exact (List.getElem?_eq_some_iff.1 hc'').1
    have hsm : ss[m]? = some ss[m] := List.getElem?_eq_getElem (by omega)
    have := w5 m _ _ c' _ (List.getElem?_eq_getElem hml) (List.getElem?_eq_getElem (by omega)) hc'' hsm
    rw [p2 m _ hm hsm] at this
    exact this.2
theorem recv_ok (P : Program) (o : Oper) (t : TypeId) (x : Operand) (ok : Bool) (h : o.op = .recv t x ok) : CmOk P o (cmK (compRecv P (tyAt P t) (compO x) ok)) := by
  unfold compRecv
  cases ht : tyAt P t with
  | none => exact noC_ok P o
  | some ty =>
  obtain ⟨s1, s2, d, s4⟩ := ty
  obtain ⟨i, i1, i2, i3, i4, i5⟩ := tyAt_ok ht
  cases d <;> try exact noC_ok P o
  rename_i dir e
  cases hz : zeroV P e with
  | none => simp only [hz]; exact noC_ok P o
  | some z =>
  simp only [hz]
  intro fr hp k hk
  have e0 : ∀ k', cmK ⟨doRecv (compO x) z ok⟩ fr hp k' = stK hp (oV (compO x) fr) fun s => match s with | .no => false | .shut => k' (recvOut ok z false) hp | .hd v r => popK hp (oV (compO x) fr) r fun h => k' (recvOut ok v true) h := by
    intro k'
    show doRecv (compO x) z ok fr hp k' = _
    unfold doRecv
    rw [oE_eq]
    congr 1
  rw [e0] at hk
  obtain ⟨s, a1, a2⟩ := stK_ok (z := z) hk
  rw [a1] at hk
  have world : ∀ ρ a w w0, ORel ρ fr a o.op.operands.toList → HRel ρ hp w w0 → ∃ zv, (execOp a.eval o).run P w = .ok (.comm #[{ chan := a.eval x, send := none, zero := zv }] true (.recv ok)) w ∧ CsRel ρ hp w (oV (compO x) fr) z s { chan := a.eval x, send := none, zero := zv } := by
    intro ρ a w w0 A R
    obtain ⟨zv, z1, z2⟩ := zeroV_ok hz ρ
    refine ⟨zv, ?_, a2 ρ w w0 _ zv R (A x (by rw [h]; simp [Op.operands])) z2⟩
    unfold execOp
    rw [h]
    simp only [Sem.run_bind, run_underlying i5, Result.andThen_ok, z1, Sem.run_pure']
  have out : ∀ ρ v y b, VRel ρ v y → VRel ρ (recvOut ok v b) (got ok y b) := fun ρ v y b hv => by
    cases ok with
    | false => exact hv
    | true => exact ⟨_, rfl, hv, rfl, trivial⟩
  cases s with
  | no => exact Bool.noConfusion hk
  | shut =>
    refine ⟨recvOut ok z false, hp, fun k' => by rw [e0, a1], KeepF.refl _, Nat.le_refl _, fun ρ a w w0 A R => ?_⟩
    obtain ⟨zv, w1, g1, L, cap, s', r, g2, g3⟩ := world ρ a w w0 A R
    exact ⟨_, _, _, w1, fun f cs' es hst => ⟨_, _, step_lone_recv_shut ok (by rw [g2] at hst; exact hst) g3, ρ, Ext.refl _ ρ, out _ _ _ _ g1, R⟩⟩
  | hd u us =>
    have hk' : (popK hp (oV (compO x) fr) us fun h => k (recvOut ok u true) h) = true := hk
    have hk0 := hk'
    unfold popK at hk0
    rcases vC_ok hk0 with ⟨_, hk1⟩ | ⟨id, hvc, hk1⟩
    · exact Bool.noConfusion hk1
    rw [hvc] at hk'
    obtain ⟨next, floor, heap, cur, min, size, cells, n, frz, ws, rfl, hb, hm, hp', hK⟩ := chK_ok hk1
    subst hm
    obtain ⟨h', q1, q2, q3, q4⟩ := popK_ok (u := u) hb hk'
    refine ⟨recvOut ok u true, h', fun k' => by rw [e0, a1, hvc]; show popK _ _ _ _ = _; rw [q1], q2, by rw [q3]; exact Nat.le_refl _, fun ρ a w w0 A R => ?_⟩
    obtain ⟨zv, w1, g1, id', L, cur', size', cells', n', fr', buf, s', r, f1, f2, f3, f4, f5, f6, f7⟩ := world ρ a w w0 A R
    rw [hvc] at f1
    cases f1
    have f2' : heap.get id = some ⟨cur', cur' + 11, size', cells', n', fr'⟩ := f2
    rw [hb] at f2'
    cases f2'
    have R' := q4 ρ w w0 L buf s' r R f4 f6 f7
    have hpos : 0 < buf.size := by
      have := f7.length
      simp at this
      omega
    have hu : VRel ρ u (buf.getD 0 undef) := by
      obtain ⟨y, y1, y2⟩ := f7.get (i := 0) (v := u) rfl
      have : buf.getD 0 undef = y := by
        rw [Array.getD_eq_getD_getElem?]
        have : buf[0]? = some y := by simpa using y1
        rw [this]; rfl
      rw [this]; exact y2
    exact ⟨_, _, _, w1, fun f cs' es hst => ⟨_, _, step_lone_recv_buf ok (by rw [f5] at hst; exact hst) f6 hpos, ρ, Ext.refl _ ρ, out _ _ _ _ hu, R'⟩⟩
theorem compCm_ok (P : Program) (o : Oper) : CmOk P o (cmK (compCm P o.op)) := by
  cases h : o.op with
  | send x y => exact send_ok P o x y h
  | recv t x ok => exact recv_ok P o t x ok h
  | select cs bl => exact select_ok P o cs bl h
  | _ => exact noC_ok P o
end Go.Ev

set_option linter.all false
namespace Go.Ev
open Go
theorem append2_ok {P : Program} {t t' ty elem e' : TypeId} {i : TypeInfo} (hu : P.underlying t = some (.slice elem)) (hu' : P.underlying t' = some (.slice e') ∨ P.underlying t' = some .string) (hi : P.info? elem = some i)
    (hz : (zeroOf i.zero).length = i.size) (hs1 : 1 ≤ i.size) (hby : i.bytes ≤ 65536) {s x : V} {n : Nat} {vs : List V} {h : H} {k : V → H → Bool} (hk : append2 elem i.size s n vs h k = true)
    (hlen : vs.length = n * i.size)
    (hx : ∀ ρ xv, VRel ρ x xv → (∀ (P : Program) w, (Builtin.lenOf xv).run P w = .ok n w) ∧ ∀ w w0, HRel ρ h w w0 → ∃ new : Array Value, LRel ρ vs new.toList ∧ ∀ (P : Program), (Builtin.firstCells i.size n xv).run P w = .ok new w) :
    ∃ v h', (∀ k', append2 elem i.size s n vs h k' = k' v h') ∧ KeepF h h' ∧ B.val h.next ≤ B.val h'.next ∧ AppSound P t t' ty elem s x h v h' := by
  rcases vL_ok hk with ⟨hv, hk⟩ | ⟨id, g, off, len, fin, cap, hv, hk⟩
  · subst hv
    obtain ⟨v, h', g1, g2, g3, g4⟩ := appNil_ok hu hu' hi hz hs1 hby hk hlen hx
    exact ⟨v, h', fun k' => by simp only [append2, vL_l0, g1], g2, g3, g4⟩
  · subst hv
    cases cap with
    | none =>
      have hk' : appGrow (Nat.ble 1 len) elem id g off len fin i.size n vs h k = true := hk
      obtain ⟨v, h', g1, g2, g3, g4⟩ := appGrow_ok hu hu' hi hz hs1 hby (cap := none) (.inl rfl) (fun hz h0 => by have := Nat.le_of_ble_eq_true hz; omega) hk' hlen hx
      exact ⟨v, h', fun k' => by simp only [append2, vL_l, g1], g2, g3, g4⟩
    | some c =>
      cases hfc : flagB c with
      | true =>
        have e : ∀ k', append2 elem i.size (.l id g off len fin (some c)) n vs h k' = boolK (flagB c) (fun _ => appGrow (selB (Nat.ble 1 len) (Nat.beq c (Nat.add 18446744073709551615 i.size))) elem id g off len fin i.size n vs h k') (fun _ => boolK (Nat.ble (Nat.add len n) c) (fun _ => appIn id g off len fin c i.size n vs h k') (fun _ => appOut elem id g off len fin i.size n vs h k')) := fun _ => rfl
        rw [e, hfc, boolK_true] at hk
        obtain ⟨v, h', g1, g2, g3, g4⟩ := appGrow_ok hu hu' hi hz hs1 hby (cap := some c) (.inr ⟨c, rfl, flagB_t hfc⟩) (fun hz h0 => by subst h0; exact congrArg some (Nat.eq_of_beq_eq_true hz)) hk hlen hx
        exact ⟨v, h', fun k' => by rw [e, hfc, boolK_true, g1], g2, g3, g4⟩
      | false =>
      have hcM := flagB_f hfc
      have e : ∀ k', append2 elem i.size (.l id g off len fin (some c)) n vs h k' = boolK (Nat.ble (Nat.add len n) c) (fun _ => appIn id g off len fin c i.size n vs h k') (fun _ => appOut elem id g off len fin i.size n vs h k') := fun k' => by
        show boolK (flagB c) _ _ = _
        rw [hfc, boolK_false]
      have hk' : boolK (Nat.ble (Nat.add len n) c) (fun _ => appIn id g off len fin c i.size n vs h k) (fun _ => appOut elem id g off len fin i.size n vs h k) = true := by rw [e] at hk; exact hk
      rcases boolK_ok hk' with ⟨hb, hk⟩ | ⟨hb, hk⟩
      · obtain ⟨v, h', g1, g2, g3, g4⟩ := appIn_ok hu hu' hi hz hs1 hby hcM hk (Nat.le_of_ble_eq_true hb) hlen hx
        exact ⟨v, h', fun k' => by rw [e, hb, boolK_true, g1], g2, g3, g4⟩
      · have hc : ¬ len + n ≤ c := fun h => by
          have : Nat.ble (Nat.add len n) c = true := Nat.ble_eq_true_of_le h
          rw [hb] at this; cases this
        obtain ⟨v, h', g1, g2, g3, g4⟩ := appOut_ok hu hu' hi hz hs1 hby hcM hk hc hlen hx
        exact ⟨v, h', fun k' => by rw [e, hb, boolK_false, g1], g2, g3, g4⟩
theorem appendS_ok (P : Program) (o : Oper) (t t' e : TypeId) (x y : Operand) (args : Array Operand) (tys : Array TypeId) (ha : args.toList = [x, y]) (ht : tys.toList = [t, t'])
    (hu : P.underlying t = some (.slice e)) (hu' : P.underlying t' = some .string)
    (h : o.op = .call ⟨.builtin .append, args, tys⟩) : RunOk P o (runK (compAppS e (tyAt P e) (compO x) (compO y))) := by
  cases h3 : tyAt P e with
  | none => exact no_ok P o
  | some et =>
    obtain ⟨l, l1, l2, l3, l4, l5⟩ := tyAt_ok h3
    unfold compAppS
    split
    · rename_i bytes z heq
      cases heq
      simp only at l2 l3 l4
      split
      · rename_i hc
        simp only [Bool.and_eq_true] at hc
        have c1 : 1 ≤ l.size := by omega
        have c2 : l.bytes ≤ 65536 := by rw [l3]; exact Nat.le_of_ble_eq_true hc.1
        have c3 : (zeroOf l.zero).length = l.size := by rw [l4, l2]; exact Nat.eq_of_beq_eq_true hc.2
        intro cf _ fr hp k hk
        simp only [runK_mk, doAppendS, oK_eq, oE_eq] at hk
        obtain ⟨n, vs, n1, n2, n3⟩ := newCellsS_ok hk
        rw [n1] at hk
        have n3' : ∀ ρ xv, VRel ρ (oV (compO y) fr) xv → (∀ (P : Program) w, (Builtin.lenOf xv).run P w = .ok n w) ∧ ∀ w w0, HRel ρ hp w w0 → ∃ new : Array Value, LRel ρ vs new.toList ∧ ∀ (P : Program), (Builtin.firstCells l.size n xv).run P w = .ok new w := by
          intro ρ xv hx
          obtain ⟨q1, new, q2, q3⟩ := n3 ρ xv hx
          exact ⟨q1, fun w w0 _ => ⟨new, q2, fun P => by rw [l2]; exact q3 P w⟩⟩
        rw [← l2] at hk n2
        obtain ⟨v, h', g1, g2, g3, g4⟩ := append2_ok (e' := e) (ty := o.type) hu (.inr hu') l1 c3 c1 c2 hk n2 n3'
        refine ⟨v, h', fun k' => by simp only [runK_mk, doAppendS, oK_eq, oE_eq, n1]; rw [← l2, g1], g2, g3, fun ρ a w w0 A R => ?_, fun hs => by rw [h] at hs; exact Bool.noConfusion hs⟩
        obtain ⟨z, w', z1, z2⟩ := g4 ρ w w0 _ _ R (A x (by rw [h]; simp [Op.operands, Call.operands, ← Array.mem_toList_iff, ha])) (A y (by rw [h]; simp [Op.operands, Call.operands, ← Array.mem_toList_iff, ha]))
        refine ⟨.value z, w', ?_, z2⟩
        rw [run_builtin P w a o .append args tys h]
        have ea : args.map a.eval = #[a.eval x, a.eval y] := by apply Array.ext'; simp [ha]
        have et : tys = #[t, t'] := by apply Array.ext'; simp [ht]
        rw [ea, et]
        simp only [builtin, Sem.run_bind, z1, Result.andThen_ok]
        rfl
      · exact no_ok P o
    · exact no_ok P o
theorem append_ok (P : Program) (o : Oper) (t t' : TypeId) (x y : Operand) (args : Array Operand) (tys : Array TypeId) (ha : args.toList = [x, y]) (ht : tys.toList = [t, t'])
    (h : o.op = .call ⟨.builtin .append, args, tys⟩) : RunOk P o (runK (compAppend P t t' (compO x) (compO y))) := by
  cases h1 : tyAt P t with
  | none => simp only [compAppend, h1]; exact no_ok P o
  | some ty =>
    cases h2 : tyAt P t' with
    | none => simp only [compAppend, h1, h2]; exact no_ok P o
    | some ty' =>
      obtain ⟨s1, s2, d, s4⟩ := ty
      obtain ⟨r1, r2, d', r4⟩ := ty'
      obtain ⟨i, i1, i2, i3, i4, i5⟩ := tyAt_ok h1
      obtain ⟨j, j1, j2, j3, j4, j5⟩ := tyAt_ok h2
      cases d <;> simp only [compAppend, h1, h2] <;> try exact no_ok P o
      rename_i e
      cases d' <;> simp only [compAppend, h1, h2] <;> try exact no_ok P o
      · exact appendS_ok P o t t' e x y args tys ha ht i5 j5 h
      rename_i e'
      cases h3 : tyAt P e with
      | none => exact no_ok P o
      | some et =>
        obtain ⟨esz, eb, ed, ez⟩ := et
        obtain ⟨l, l1, l2, l3, l4, l5⟩ := tyAt_ok h3
        simp only at l2 l3 l4
        cases hc : (Nat.ble 1 esz && (Nat.ble eb 65536 && Nat.beq ez.length esz)) with
        | false => simp only [hc]; exact no_ok P o
        | true =>
          simp only [hc, runK_mk]
          simp only [Bool.and_eq_true] at hc
          have c1 : 1 ≤ l.size := by rw [l2]; exact Nat.le_of_ble_eq_true hc.1
          have c2 : l.bytes ≤ 65536 := by rw [l3]; exact Nat.le_of_ble_eq_true hc.2.1
          have c3 : (zeroOf l.zero).length = l.size := by rw [l4, l2]; exact Nat.eq_of_beq_eq_true hc.2.2
          rw [← l2]
          intro cf _ fr hp k hk
          simp only [doAppend, oK_eq, oE_eq] at hk
          obtain ⟨n, vs, n1, n2, n3⟩ := newCells_ok hk
          rw [n1] at hk
          obtain ⟨v, h', g1, g2, g3, g4⟩ := append2_ok (e' := e') (ty := o.type) i5 (.inl j5) l1 c3 c1 c2 hk n2 n3
          refine ⟨v, h', fun k' => by simp only [doAppend, oK_eq, oE_eq, n1, g1], g2, g3, fun ρ a w w0 A R => ?_, fun hs => by rw [h] at hs; exact Bool.noConfusion hs⟩
          obtain ⟨z, w', z1, z2⟩ := g4 ρ w w0 _ _ R (A x (by rw [h]; simp [Op.operands, Call.operands, ← Array.mem_toList_iff, ha])) (A y (by rw [h]; simp [Op.operands, Call.operands, ← Array.mem_toList_iff, ha]))
          refine ⟨.value z, w', ?_, z2⟩
          rw [run_builtin P w a o .append args tys h]
          have ea : args.map a.eval = #[a.eval x, a.eval y] := by apply Array.ext'; simp [ha]
          have et : tys = #[t, t'] := by apply Array.ext'; simp [ht]
          rw [ea, et]
          simp only [builtin, Sem.run_bind, z1, Result.andThen_ok]
          rfl
theorem run_copy {P : Program} {w : World} {t t' ty e : TypeId} {i : TypeInfo} {base : Option Addr} {len c n : Nat} {x : Value} {cells : Array Value} {w' : World}
    (hu : P.underlying t = some (.slice e)) (hi : P.info? e = some i) (hl : (Builtin.lenOf x).run P w = .ok n w) (hc : (Builtin.firstCells i.size (Nat.min n len) x).run P w = .ok cells w)
    (hst : ∀ a, base = some a → (storeCells a cells.toList).run P w = .ok () w') (hno : base = none → w' = w) :
    (Builtin.copy_ #[t, t'] ty #[.slice base len c, x]).run P w = .ok (.int .i64 (Int.ofNat (Nat.min n len))) w' := by
  unfold Builtin.copy_
  simp only [List.getElem?_toArray, List.getElem?_cons_zero, List.getElem?_cons_succ, Sem.run_bind, run_underlying hu, Result.andThen_ok, run_sizeOf' hi, hl, hc]
  cases base with
  | none => rw [hno rfl]; rfl
  | some a => simp only [Sem.run_bind, hst a rfl, Result.andThen_ok]; rfl
theorem copy_ok (P : Program) (o : Oper) (t t' : TypeId) (x y : Operand) (args : Array Operand) (tys : Array TypeId) (ha : args.toList = [x, y]) (ht : tys.toList = [t, t'])
    (h : o.op = .call ⟨.builtin .copy, args, tys⟩) : RunOk P o (runK (compCopy P t (compO x) (compO y))) := by
  have ea : ∀ a : Act, args.map a.eval = #[a.eval x, a.eval y] := fun a => by apply Array.ext'; simp [ha]
  have et : tys = #[t, t'] := by apply Array.ext'; simp [ht]
  have mx : x ∈ o.op.operands.toList := by rw [h]; simp [Op.operands, Call.operands, ← Array.mem_toList_iff, ha]
  have my : y ∈ o.op.operands.toList := by rw [h]; simp [Op.operands, Call.operands, ← Array.mem_toList_iff, ha]
  cases h1 : tyAt P t with
  | none => simp only [compCopy, h1]; exact no_ok P o
  | some ty =>
    obtain ⟨s1, s2, d, s4⟩ := ty
    obtain ⟨i, i1, i2, i3, i4, i5⟩ := tyAt_ok h1
    cases d <;> simp only [compCopy, h1] <;> try exact no_ok P o
    rename_i e
    cases h2 : tyAt P e with
    | none => exact no_ok P o
    | some ety =>
      obtain ⟨esz, eb, ed, ez⟩ := ety
      obtain ⟨j, j1, j2, j3, j4, j5⟩ := tyAt_ok h2
      simp only at j2
      subst j2
      simp only [runK_mk]
      intro cf _ fr hp k hk
      have done : ∀ (v : V) (h' : H), (∀ k', doCopy j.size (compO x) (compO y) cf fr hp k' = k' v h') → KeepF hp h' → B.val hp.next ≤ B.val h'.next →
          (∀ ρ w w0 sv xv, HRel ρ hp w w0 → VRel ρ (oV (compO x) fr) sv → VRel ρ (oV (compO y) fr) xv → ∃ z w', (Builtin.copy_ #[t, t'] o.type #[sv, xv]).run P w = .ok z w' ∧ VRel ρ v z ∧ HRel ρ h' w' w0) →
          ∃ v h', (∀ k', doCopy j.size (compO x) (compO y) cf fr hp k' = k' v h') ∧ KeepF hp h' ∧ B.val hp.next ≤ B.val h'.next ∧ OpSound P o fr hp v h' ∧ (still P o.op = true → h' = hp ∧ CalmSound P o fr v) := by
        intro v h' g1 g2 g3 g4
        refine ⟨v, h', g1, g2, g3, fun ρ a w w0 A R => ?_, fun hs => by rw [h] at hs; exact Bool.noConfusion hs⟩
        obtain ⟨z, w', z1, z2, z3⟩ := g4 ρ w w0 _ _ R (A x mx) (A y my)
        refine ⟨.value z, w', ?_, ρ, Ext.refl _ ρ, z2, z3⟩
        rw [run_builtin P w a o .copy args tys h, ea, et]
        simp only [builtin, Sem.run_bind, z1, Result.andThen_ok]
        rfl
      simp only [doCopy, oK_eq] at hk
      rcases vL_ok hk with ⟨hv, hk2⟩ | ⟨id, g, off, len, fin, cap, hv, hk2⟩
      · rcases vL_ok hk2 with ⟨hy, hk3⟩ | ⟨id', g', off', len', fin', cap', hy, hk3⟩
        · refine done (.i .i64 (.ofNat 0)) hp (fun k' => by simp only [doCopy, oK_eq, hv, vL_l0, copy0, hy]) (KeepF.refl hp) (Nat.le_refl _) (fun ρ w w0 sv xv R hs hx => ?_)
          rw [hv] at hs
          rw [hy] at hx
          have hs' : sv = .slice none 0 0 := hs
          have hx' : xv = .slice none 0 0 := hx
          subst hs'
          subst hx'
          exact ⟨_, w, run_copy i5 j1 rfl rfl (fun a ha => by cases ha) (fun _ => rfl), rfl, R⟩
        · refine done (.i .i64 (.ofNat 0)) hp (fun k' => by simp only [doCopy, oK_eq, hv, vL_l0, copy0, hy, vL_l]) (KeepF.refl hp) (Nat.le_refl _) (fun ρ w w0 sv xv R hs hx => ?_)
          rw [hv] at hs
          rw [hy] at hx
          have hs' : sv = .slice none 0 0 := hs
          obtain ⟨L, ad, c, l1, rfl, lc, l3, l4, l5, l6, l7⟩ := hx
          subst hs'
          have hm : Nat.min len' 0 = 0 := Nat.min_zero _
          refine ⟨.int .i64 (Int.ofNat 0), w, ?_, rfl, R⟩
          have := run_copy (t' := t') (ty := o.type) (w' := w) (base := none) (len := 0) (c := 0) (cells := #[]) i5 j1 (show (Builtin.lenOf (.slice (some ad) len' c)).run P w = .ok len' w from rfl) (by rw [hm]; unfold Builtin.firstCells; rw [Nat.zero_mul]; rfl) (fun a ha => by cases ha) (fun _ => rfl)
          rw [hm] at this
          exact this
      · rcases vL_ok hk2 with ⟨hy, hk3⟩ | ⟨id', g', off', len', fin', cap', hy, hk3⟩
        · refine done (.i .i64 (.ofNat 0)) hp (fun k' => by simp only [doCopy, oK_eq, hv, vL_l, copyTo, hy, vL_l0]) (KeepF.refl hp) (Nat.le_refl _) (fun ρ w w0 sv xv R hs hx => ?_)
          rw [hv] at hs
          rw [hy] at hx
          have hx' : xv = .slice none 0 0 := hx
          obtain ⟨L, ad, c, l1, rfl, lc, l3, l4, l5, l6, l7⟩ := hs
          subst hx'
          have hm : Nat.min 0 len = 0 := Nat.zero_min _
          refine ⟨.int .i64 (Int.ofNat 0), w, ?_, rfl, R⟩
          have := run_copy (t' := t') (ty := o.type) (w' := w) (base := some ad) (len := len) (c := c) (cells := #[]) i5 j1 (show (Builtin.lenOf (.slice none 0 0)).run P w = .ok 0 w from rfl) (by rw [hm]; rfl) (fun a ha => rfl) (fun _ => rfl)
          rw [hm] at this
          exact this
        · rcases natC_ok hk3 with ⟨hm, hk4⟩ | ⟨m, hm, hk4⟩
          · refine done (.i .i64 (.ofNat 0)) hp (fun k' => by simp only [doCopy, oK_eq, hv, vL_l, copyTo, hy, hm, natC_zero]) (KeepF.refl hp) (Nat.le_refl _) (fun ρ w w0 sv xv R hs hx => ?_)
            rw [hv] at hs
            rw [hy] at hx
            obtain ⟨L, ad, c, l1, rfl, lc, l3, l4, l5, l6, l7⟩ := hs
            obtain ⟨L', ad', c', m1, rfl, mc, m3, m4, m5, m6, m7⟩ := hx
            refine ⟨.int .i64 (Int.ofNat 0), w, ?_, rfl, R⟩
            have := run_copy (t' := t') (ty := o.type) (w' := w) (base := some ad) (len := len) (c := c) (cells := #[]) i5 j1 (show (Builtin.lenOf (.slice (some ad') len' c')).run P w = .ok len' w from rfl) (by rw [hm]; unfold Builtin.firstCells; rw [Nat.zero_mul]; rfl) (fun a ha => rfl) (fun _ => rfl)
            rw [hm] at this
            exact this
          · obtain ⟨vs, n1, n2, n3⟩ := loadN_ok hk4
            rw [n1] at hk4
            obtain ⟨h', g1, g2, g3, g4⟩ := store_ok hk4
            have hml : Nat.min len' len ≤ len' ∧ Nat.min len' len ≤ len := ⟨Nat.min_le_left _ _, Nat.min_le_right _ _⟩
            refine done (.i .i64 (.ofNat (m + 1))) h' (fun k' => by simp only [doCopy, oK_eq, hv, vL_l, copyTo, hy, hm, natC_succ]; rw [← hm, n1, g1, hm]) g2 (by rw [g3]; exact Nat.le_refl _) (fun ρ w w0 sv xv R hs hx => ?_)
            rw [hv] at hs
            rw [hy] at hx
            obtain ⟨L, ad, c, l1, rfl, lc, l3, l4, l5, l6, l7⟩ := hs
            obtain ⟨L', ad', c', m1, rfl, mc, m3, m4, m5, m6, m7⟩ := hx
            obtain ⟨xs, x1, x2, x3⟩ := n3 ρ w w0 L' R m1 m3 m4
            have hadr : ad = ⟨L.b, off - L.s, none⟩ := by
              rcases l5 with ⟨h0, _⟩ | h1
              · omega
              · exact h1
            have hadr' : ad' = ⟨L'.b, off' - L'.s, none⟩ := by
              rcases m5 with ⟨h0, _⟩ | h1
              · omega
              · exact h1
            subst hadr
            subst hadr'
            obtain ⟨s1, s2⟩ := g4 ρ w w0 L xs R l1 l3 l4 x1
            refine ⟨.int .i64 (Int.ofNat (m + 1)), _, ?_, rfl, s2⟩
            have := run_copy (t' := t') (ty := o.type) (base := some ⟨L.b, off - L.s, none⟩) (len := len) (c := c) (cells := xs.toArray) i5 j1 (show (Builtin.lenOf (.slice (some ⟨L'.b, off' - L'.s, none⟩) len' c')).run P w = .ok len' w from rfl) (by unfold Builtin.firstCells; exact x2 P) (fun a ha => by cases ha; exact s1 P) (fun hn => by cases hn)
            rw [hm] at this
            exact this
theorem run_clear {P : Program} {w : World} {t ty e : TypeId} {v : Value} {base : Option Addr} {n c : Nat} {w' : World}
    (hu : P.underlying t = some (.slice e)) (hz : ∀ w, (zeroValue e).run P w = .ok v w)
    (h0 : base = none ∨ n = 0 → w' = w) (hst : ∀ a, base = some a → n ≠ 0 → (storeCells a (Builtin.zeroCells v.cells n).toList).run P w = .ok () w') :
    (Builtin.clear_ #[t] ty #[.slice base n c]).run P w = .ok (.tuple #[]) w' := by
  unfold Builtin.clear_
  simp only [List.getElem?_toArray, List.getElem?_cons_zero, List.getElem?_cons_succ, Sem.run_bind, run_underlying hu, Result.andThen_ok]
  cases base with
  | none => rw [h0 (.inl rfl)]; rfl
  | some a =>
    cases n with
    | zero => rw [h0 (.inr rfl)]; rfl
    | succ m =>
      simp only [Sem.run_bind, hz, Result.andThen_ok, hst a rfl (Nat.succ_ne_zero m)]; rfl
theorem clear_ok (P : Program) (o : Oper) (t : TypeId) (x : Operand) (args : Array Operand) (tys : Array TypeId) (ha : args.toList = [x]) (ht : tys.toList = [t])
    (h : o.op = .call ⟨.builtin .clear, args, tys⟩) : RunOk P o (runK (compClear P t (compO x))) := by
  have ea : ∀ a : Act, args.map a.eval = #[a.eval x] := fun a => by apply Array.ext'; simp [ha]
  have et : tys = #[t] := by apply Array.ext'; simp [ht]
  have mx : x ∈ o.op.operands.toList := by rw [h]; simp [Op.operands, Call.operands, ← Array.mem_toList_iff, ha]
  cases h1 : tyAt P t with
  | none => simp only [compClear, h1]; exact no_ok P o
  | some ty =>
    obtain ⟨s1, s2, d, s4⟩ := ty
    obtain ⟨i, i1, i2, i3, i4, i5⟩ := tyAt_ok h1
    cases d <;> simp only [compClear, h1] <;> try exact no_ok P o
    rename_i e
    cases h2 : tyAt P e with
    | none => exact no_ok P o
    | some ety =>
      obtain ⟨esz, eb, ed, ez⟩ := ety
      obtain ⟨j, j1, j2, j3, j4, j5⟩ := tyAt_ok h2
      simp only at j2 j4
      cases hc : (Nat.beq ez.length esz && Nat.ble 1 esz) with
      | false => simp only [compClear1, hc]; exact no_ok P o
      | true =>
      simp only [compClear1, hc, runK_mk]
      simp only [Bool.and_eq_true] at hc
      have hz1 : ez.length = esz := Nat.eq_of_beq_eq_true hc.1
      have hz2 : 1 ≤ esz := Nat.le_of_ble_eq_true hc.2
      intro cf _ fr hp k hk
      have done : ∀ (h' : H), (∀ k', doClear ez (compO x) cf fr hp k' = k' (.tu []) h') → KeepF hp h' → B.val hp.next ≤ B.val h'.next →
          (∀ ρ w w0 sv, HRel ρ hp w w0 → VRel ρ (oV (compO x) fr) sv → ∃ w', (Builtin.clear_ #[t] o.type #[sv]).run P w = .ok (.tuple #[]) w' ∧ HRel ρ h' w' w0) →
          ∃ v h', (∀ k', doClear ez (compO x) cf fr hp k' = k' v h') ∧ KeepF hp h' ∧ B.val hp.next ≤ B.val h'.next ∧ OpSound P o fr hp v h' ∧ (still P o.op = true → h' = hp ∧ CalmSound P o fr v) := by
        intro h' g1 g2 g3 g4
        refine ⟨.tu [], h', g1, g2, g3, fun ρ a w w0 A R => ?_, fun hs => by rw [h] at hs; exact Bool.noConfusion hs⟩
        obtain ⟨w', z1, z3⟩ := g4 ρ w w0 _ R (A x mx)
        refine ⟨.value (.tuple #[]), w', ?_, ρ, Ext.refl _ ρ, ⟨#[], rfl, trivial⟩, z3⟩
        rw [run_builtin P w a o .clear args tys h, ea, et]
        simp only [builtin, Sem.run_bind, z1, Result.andThen_ok]
        rfl
      obtain ⟨zv, zv1, _⟩ := zero_rel (ρ := fun _ _ => none) (z := j.zero) (by rw [j4]; omega)
      simp only [doClear, oK_eq] at hk
      rcases vL_ok hk with ⟨hv, hk2⟩ | ⟨id, g, off, len, fin, cap, hv, hk2⟩
      · refine done hp (fun k' => by simp only [doClear, oK_eq, hv, vL_l0]) (KeepF.refl hp) (Nat.le_refl _) (fun ρ w w0 sv R hs => ?_)
        rw [hv] at hs
        have hs' : sv = .slice none 0 0 := hs
        subst hs'
        exact ⟨w, run_clear i5 (run_zero' j1 zv1) (fun _ => rfl) (fun a ha => by cases ha), R⟩
      · rcases natC_ok hk2 with ⟨hm, hk3⟩ | ⟨m, hm, hk3⟩
        · refine done hp (fun k' => by simp only [doClear, oK_eq, hv, vL_l, hm, natC_zero]) (KeepF.refl hp) (Nat.le_refl _) (fun ρ w w0 sv R hs => ?_)
          rw [hv] at hs
          obtain ⟨L, ad, c, l1, rfl, lc, l3, l4, l5, l6, l7⟩ := hs
          exact ⟨w, run_clear i5 (run_zero' j1 zv1) (fun _ => rfl) (fun a ha hn => absurd hm hn), R⟩
        · obtain ⟨h', g1, g2, g3, g4⟩ := store_ok hk3
          refine done h' (fun k' => by simp only [doClear, oK_eq, hv, vL_l, hm, natC_succ]; rw [← hm, g1]) g2 (by rw [g3]; exact Nat.le_refl _) (fun ρ w w0 sv R hs => ?_)
          rw [hv] at hs
          obtain ⟨L, ad, c, l1, rfl, lc, l3, l4, l5, l6, l7⟩ := hs
          have hadr : ad = ⟨L.b, off - L.s, none⟩ := by
            rcases l5 with ⟨h0, _⟩ | h1
            · omega
            · exact h1
          subst hadr
          obtain ⟨v, v1, v2⟩ := zero_rel (ρ := ρ) (z := j.zero) (by rw [j4]; omega)
          obtain rfl : zv = v := by rw [v1] at zv1; exact (Option.some.inj zv1).symm
          rw [j4] at v2
          have hvs : zv.cells.size = ez.length := by have := v2.length; simp at this; omega
          have hr : LRel ρ (repL ez len) (Builtin.zeroCells zv.cells len).toList := by
            have := rep_rel v2 (by omega) len
            unfold Builtin.zeroCells
            rw [hvs]; rw [hvs] at this; exact this
          obtain ⟨q1, q2⟩ := g4 ρ w w0 L _ R l1 l3 l4 hr
          exact ⟨_, run_clear i5 (run_zero' j1 v1) (fun hx => by rcases hx with hx | hx; cases hx; omega) (fun a ha _ => by cases ha; exact q1 P), q2⟩
theorem copyS_ok (P : Program) (o : Oper) (t t' e : TypeId) (x y : Operand) (args : Array Operand) (tys : Array TypeId) (ha : args.toList = [x, y]) (ht : tys.toList = [t, t'])
    (hu : P.underlying t = some (.slice e)) (h : o.op = .call ⟨.builtin .copy, args, tys⟩) : RunOk P o (runK (compCopyS1 (tyAt P e) (compO x) (compO y))) := by
  have ea : ∀ a : Act, args.map a.eval = #[a.eval x, a.eval y] := fun a => by apply Array.ext'; simp [ha]
  have et : tys = #[t, t'] := by apply Array.ext'; simp [ht]
  have mx : x ∈ o.op.operands.toList := by rw [h]; simp [Op.operands, Call.operands, ← Array.mem_toList_iff, ha]
  have my : y ∈ o.op.operands.toList := by rw [h]; simp [Op.operands, Call.operands, ← Array.mem_toList_iff, ha]
  cases h2 : tyAt P e with
  | none => exact no_ok P o
  | some ety =>
    obtain ⟨j, j1, j2, j3, j4, j5⟩ := tyAt_ok h2
    unfold compCopyS1
    split
    · rename_i bytes z heq
      cases heq
      simp only at j2
      intro cf _ fr hp k hk
      simp only [runK_mk, doCopyS, oK_eq] at hk
      rcases vL_ok hk with ⟨hv, hk2⟩ | ⟨id, g, off, len, fin, cap, hv, hk2⟩
      · cases hk2
      rcases natC_ok hk2 with ⟨hm, hk3⟩ | ⟨m, hm, hk3⟩
      · cases hk3
      unfold copyToS at hk3
      obtain ⟨n, vs, n1, n2, n3⟩ := newCellsS_ok hk3
      rw [n1] at hk3
      obtain ⟨hb, hk4⟩ := ifK_ok hk3
      have hn : n = len := Nat.eq_of_beq_eq_true hb
      obtain ⟨h', g1, g2, g3, g4⟩ := store_ok hk4
      refine ⟨.i .i64 (.ofNat n), h', fun k' => ?_, g2, by rw [g3]; exact Nat.le_refl _, fun ρ a w w0 A R => ?_, fun hs => by rw [h] at hs; exact Bool.noConfusion hs⟩
      · simp only [runK_mk, doCopyS, oK_eq, hv, vL_l, hm, natC_succ]
        unfold copyToS
        rw [n1, ← hm, hb, ifK_true, g1]
      have hs := A x mx
      have hx := A y my
      rw [hv] at hs
      obtain ⟨L, ad, c, l1, l2, lc, l3, l4, l5, l6, l7⟩ := hs
      obtain ⟨q1, new, q2, q3⟩ := n3 ρ _ hx
      have hadr : ad = ⟨L.b, off - L.s, none⟩ := by
        rcases l5 with ⟨h0, _⟩ | h1
        · omega
        · exact h1
      subst hadr
      obtain ⟨s1, s2⟩ := g4 ρ w w0 L new.toList R l1 l3 l4 q2
      refine ⟨.value (.int .i64 (Int.ofNat n)), _, ?_, ρ, Ext.refl _ ρ, rfl, s2⟩
      rw [run_builtin P w a o .copy args tys h, ea, et, l2]
      have hmn : Nat.min n len = n := by rw [hn]; exact Nat.min_self _
      have := run_copy (P := P) (t' := t') (ty := o.type) (base := some ⟨L.b, off - L.s, none⟩) (len := len) (c := c) (cells := new) hu j1 (q1 P w) (by rw [hmn, j2]; exact q3 P w) (fun a ha => by cases ha; exact s1 P) (fun hn => by cases hn)
      rw [hmn] at this
      simp only [builtin, Sem.run_bind, this, Result.andThen_ok]
      rfl
    · exact no_ok P o
theorem copyT_ok (P : Program) (o : Oper) (t t' : TypeId) (x y : Operand) (args : Array Operand) (tys : Array TypeId) (ha : args.toList = [x, y]) (ht : tys.toList = [t, t'])
    (h : o.op = .call ⟨.builtin .copy, args, tys⟩) : RunOk P o (runK (compCopyT P t t' (compO x) (compO y))) := by
  unfold compCopyT
  split
  · unfold compCopyS
    split
    · rename_i hty
      obtain ⟨i, i1, i2, i3, i4, i5⟩ := tyAt_ok hty
      exact copyS_ok P o t t' _ x y args tys ha ht i5 h
    · exact no_ok P o
  · exact copy_ok P o t t' x y args tys ha ht h
theorem len_ok (P : Program) (o : Oper) (t : TypeId) (x : Operand) (args : Array Operand) (tys : Array TypeId) (ha : args.toList = [x]) (ht : tys.toList = [t])
    (h : o.op = .call ⟨.builtin .len, args, tys⟩) : RunOk P o (runK (compLen P t (compO x))) := by
  have ea : ∀ a : Act, args.map a.eval = #[a.eval x] := fun a => by apply Array.ext'; simp [ha]
  have et : tys = #[t] := by apply Array.ext'; simp [ht]
  cases h1 : tyAt P t with
  | none => simp only [compLen, h1]; exact no_ok P o
  | some ty =>
    obtain ⟨s1, s2, d, s4⟩ := ty
    obtain ⟨i, i1, i2, i3, i4, i5⟩ := tyAt_ok h1
    cases d <;> simp only [compLen, h1] <;> try exact no_ok P o
    · refine RunOk.calm fun cf fr hp k hk => ?_
      simp only [runK_mk, doLenS, oK_eq, oE_eq] at hk
      obtain ⟨len, n, hv, hk⟩ := vS_ok hk
      refine ⟨.i .i64 len, fun k' => by simp only [runK_mk, doLenS, oK_eq, oE_eq, hv, vS_s]; rfl, fun ρ a A w => ?_⟩
      have hx := (A x (by rw [h]; simp [Op.operands, Call.operands, ← Array.mem_toList_iff, ha]))
      rw [hv] at hx
      obtain ⟨bs, b1, b2, b3⟩ := hx
      refine ⟨.int .i64 len, ?_, rfl⟩
      rw [run_builtin P w a o .len args tys h, ea, et, b1]
      unfold builtin Builtin.len_
      simp only [List.getElem?_toArray, List.getElem?_cons_zero, Sem.run_bind, run_underlying i5, Result.andThen_ok, b2]
      rfl
    · refine RunOk.calm fun cf fr hp k hk => ?_
      simp only [runK_mk, doLen, oK_eq, oE_eq] at hk
      rcases vL_ok hk with ⟨hv, hk⟩ | ⟨id, g, off, len, fin, cap, hv, hk⟩
      · refine ⟨.i .i64 0, fun k' => by simp only [runK_mk, doLen, oK_eq, oE_eq, hv, vL_l0]; rfl, fun ρ a A w => ?_⟩
        have hx := (A x (by rw [h]; simp [Op.operands, Call.operands, ← Array.mem_toList_iff, ha]))
        rw [hv] at hx
        have hx' : a.eval x = .slice none 0 0 := hx
        refine ⟨.int .i64 0, ?_, rfl⟩
        rw [run_builtin P w a o .len args tys h, ea, et, hx']
        unfold builtin Builtin.len_
        simp only [List.getElem?_toArray, List.getElem?_cons_zero, Sem.run_bind, run_underlying i5, Result.andThen_ok]
        rfl
      · refine ⟨.i .i64 len, fun k' => by simp only [runK_mk, doLen, oK_eq, oE_eq, hv, vL_l]; rfl, fun ρ a A w => ?_⟩
        have hx := (A x (by rw [h]; simp [Op.operands, Call.operands, ← Array.mem_toList_iff, ha]))
        rw [hv] at hx
        obtain ⟨L, ad, c, l1, hx', l3⟩ := hx
        refine ⟨.int .i64 len, ?_, rfl⟩
        rw [run_builtin P w a o .len args tys h, ea, et, hx']
        unfold builtin Builtin.len_
        simp only [List.getElem?_toArray, List.getElem?_cons_zero, Sem.run_bind, run_underlying i5, Result.andThen_ok]
        rfl
    · exact mapLen_ok P o t _ _ x args tys ha ht (by simp only [isMapT, h1]) i5 h
theorem min_ok (P : Program) (o : Oper) (x y : Operand) (args : Array Operand) (tys : Array TypeId) (ha : args.toList = [x, y])
    (h : o.op = .call ⟨.builtin .min, args, tys⟩) : RunOk P o (doMin (compO x) (compO y)) := by
  have ea : ∀ a : Act, args.map a.eval = #[a.eval x, a.eval y] := fun a => by apply Array.ext'; simp [ha]
  refine RunOk.calm fun cf fr hp k hk => ?_
  simp only [doMin, oK_eq, oE_eq] at hk
  obtain ⟨kd, m, hm, hk⟩ := vI_ok hk
  obtain ⟨kd', n, hn, hk⟩ := vI_ok hk
  obtain ⟨he, hk2⟩ := ifK_ok hk
  have hkd := kdEq_ok he
  subst hkd
  refine ⟨.i kd (if n < m then n else m), fun k' => ?_, fun ρ a A w => ?_⟩
  · simp only [doMin, oK_eq, oE_eq, hm, vI_i, hn, he, ifK_true, ltI_eq]
    by_cases hlt : n < m <;> simp [hlt]
  · have hx := (A x (by rw [h]; simp [Op.operands, Call.operands, ← Array.mem_toList_iff, ha]))
    rw [hm] at hx
    have hx' : a.eval x = .int kd m := hx
    have hy := (A y (by rw [h]; simp [Op.operands, Call.operands, ← Array.mem_toList_iff, ha]))
    rw [hn] at hy
    have hy' : a.eval y = .int kd n := hy
    refine ⟨.int kd (if n < m then n else m), ?_, rfl⟩
    rw [run_builtin P w a o .min args tys h, ea, hx', hy']
    rfl
theorem max_ok (P : Program) (o : Oper) (x y : Operand) (args : Array Operand) (tys : Array TypeId) (ha : args.toList = [x, y])
    (h : o.op = .call ⟨.builtin .max, args, tys⟩) : RunOk P o (doMax (compO x) (compO y)) := by
  have ea : ∀ a : Act, args.map a.eval = #[a.eval x, a.eval y] := fun a => by apply Array.ext'; simp [ha]
  refine RunOk.calm fun cf fr hp k hk => ?_
  simp only [doMax, oK_eq, oE_eq] at hk
  obtain ⟨kd, m, hm, hk⟩ := vI_ok hk
  obtain ⟨kd', n, hn, hk⟩ := vI_ok hk
  obtain ⟨he, hk2⟩ := ifK_ok hk
  have hkd := kdEq_ok he
  subst hkd
  refine ⟨.i kd (if n > m then n else m), fun k' => ?_, fun ρ a A w => ?_⟩
  · simp only [doMax, oK_eq, oE_eq, hm, vI_i, hn, he, ifK_true, ltI_eq]
    by_cases hlt : m < n <;> simp [hlt]
  · have hx := (A x (by rw [h]; simp [Op.operands, Call.operands, ← Array.mem_toList_iff, ha]))
    rw [hm] at hx
    have hx' : a.eval x = .int kd m := hx
    have hy := (A y (by rw [h]; simp [Op.operands, Call.operands, ← Array.mem_toList_iff, ha]))
    rw [hn] at hy
    have hy' : a.eval y = .int kd n := hy
    refine ⟨.int kd (if n > m then n else m), ?_, rfl⟩
    rw [run_builtin P w a o .max args tys h, ea, hx', hy']
    rfl
theorem mms_ok (P : Program) (o : Oper) (x y : Operand) (b : Builtin) (f : Nat → Nat → Nat → Nat → Bool) (args : Array Operand) (tys : Array TypeId) (ha : args.toList = [x, y])
    (h : o.op = .call ⟨.builtin b, args, tys⟩) (hb : ∀ (P : Program) (w : World) (c : Array Bool) (u v : ByteArray), (builtin b tys o.type c #[.string u, .string v]).run P w = .ok (.value (.string (if f u.data.toList.length (pk u.data.toList) v.data.toList.length (pk v.data.toList) then u else v))) w) : RunOk P o (doMMS f (compO x) (compO y)) := by
  have ea : ∀ a : Act, args.map a.eval = #[a.eval x, a.eval y] := fun a => by apply Array.ext'; simp [ha]
  refine RunOk.calm fun cf t hp k hk => ?_
  simp only [doMMS, oE_eq] at hk
  obtain ⟨la, na, h1, hk2⟩ := vS_ok hk
  obtain ⟨lb, nb, h2, hk3⟩ := vS_ok hk2
  refine ⟨if f la na lb nb then .s la na else .s lb nb, fun k' => ?_, fun ρ a A w => ?_⟩
  · simp only [doMMS, oE_eq, h1, vS_s, h2]
    cases f la na lb nb <;> rfl
  · have hx := (A x (by rw [h]; simp [Op.operands, Call.operands, ← Array.mem_toList_iff, ha]))
    rw [h1] at hx
    obtain ⟨bx, ex, lx, px, sx⟩ := srel hx
    have hy := (A y (by rw [h]; simp [Op.operands, Call.operands, ← Array.mem_toList_iff, ha]))
    rw [h2] at hy
    obtain ⟨by', ey, ly, py, sy⟩ := srel hy
    refine ⟨.string (if f la na lb nb then bx else by'), ?_, ?_⟩
    · rw [run_builtin P w a o b args tys h, ea, ex, ey, hb, lx, px, ly, py]
    · rw [ex] at hx
      rw [ey] at hy
      cases f la na lb nb
      · exact hy
      · exact hx
theorem min2_ok (P : Program) (o : Oper) (x y : Operand) (args : Array Operand) (tys : Array TypeId) (s : Bool) (ha : args.toList = [x, y])
    (h : o.op = .call ⟨.builtin .min, args, tys⟩) : RunOk P o (runK (compMin s (compO x) (compO y))) := by
  cases s
  · exact min_ok P o x y args tys ha h
  · refine mms_ok P o x y .min _ args tys ha h fun P w c u v => ?_
    simp only [builtin, Builtin.min_, List.foldlM, Builtin.min2, Op.stringOp, ltS_pk, eqS_pk]
    rfl
theorem max2_ok (P : Program) (o : Oper) (x y : Operand) (args : Array Operand) (tys : Array TypeId) (s : Bool) (ha : args.toList = [x, y])
    (h : o.op = .call ⟨.builtin .max, args, tys⟩) : RunOk P o (runK (compMax s (compO x) (compO y))) := by
  cases s
  · exact max_ok P o x y args tys ha h
  · refine mms_ok P o x y .max _ args tys ha h fun P w c u v => ?_
    simp only [builtin, Builtin.max_, List.foldlM, Builtin.max2, Op.stringOp, ltS_pk]
    rfl
theorem builtin_ok (P : Program) (o : Oper) (b : Builtin) (args : Array Operand) (tys : Array TypeId) (h : o.op = .call ⟨.builtin b, args, tys⟩) : RunOk P o (runK (compBuiltin P b (args.toList.map compO) tys.toList)) := by
  unfold compBuiltin
  split
  · rename_i x t hx ht
    generalize ha : args.toList = al at hx
    match al, hx with
    | [y], hx => simp only [List.map_cons, List.map_nil, List.cons.injEq, and_true] at hx; subst hx; exact len_ok P o t y args tys ha ht h
    | [], hx => simp at hx
    | _ :: _ :: _, hx => simp at hx
  · rename_i x y hx
    generalize ha : args.toList = al at hx
    match al, hx with
    | [p, q], hx => simp only [List.map_cons, List.map_nil, List.cons.injEq, and_true] at hx; obtain ⟨rfl, rfl⟩ := hx; exact min2_ok P o p q args tys _ ha h
    | [], hx => simp at hx
    | [_], hx => simp at hx
    | _ :: _ :: _ :: _, hx => simp at hx
  · rename_i x y hx
    generalize ha : args.toList = al at hx
    match al, hx with
    | [p, q], hx => simp only [List.map_cons, List.map_nil, List.cons.injEq, and_true] at hx; obtain ⟨rfl, rfl⟩ := hx; exact max2_ok P o p q args tys _ ha h
    | [], hx => simp at hx
    | [_], hx => simp at hx
    | _ :: _ :: _ :: _, hx => simp at hx
  · rename_i x y t t' hx ht
    generalize ha : args.toList = al at hx
    match al, hx with
    | [p, q], hx => simp only [List.map_cons, List.map_nil, List.cons.injEq, and_true] at hx; obtain ⟨rfl, rfl⟩ := hx; exact append_ok P o t t' p q args tys ha ht h
    | [], hx => simp at hx
    | [_], hx => simp at hx
    | _ :: _ :: _ :: _, hx => simp at hx
  · rename_i x y t t' hx ht
    generalize ha : args.toList = al at hx
    match al, hx with
    | [p, q], hx => simp only [List.map_cons, List.map_nil, List.cons.injEq, and_true] at hx; obtain ⟨rfl, rfl⟩ := hx; exact copyT_ok P o t t' p q args tys ha ht h
    | [], hx => simp at hx
    | [_], hx => simp at hx
    | _ :: _ :: _ :: _, hx => simp at hx
  · rename_i x hx
    generalize ha : args.toList = al at hx
    match al, hx with
    | [p], hx => simp only [List.map_cons, List.map_nil, List.cons.injEq, and_true] at hx; subst hx; exact sdata_ok P o p args tys ha h
    | [], hx => simp at hx
    | _ :: _ :: _, hx => simp at hx
  · rename_i x y t t' hx ht
    generalize ha : args.toList = al at hx
    match al, hx with
    | [p, q], hx => simp only [List.map_cons, List.map_nil, List.cons.injEq, and_true] at hx; obtain ⟨rfl, rfl⟩ := hx; exact mapDel_ok P o t t' p q args tys ha ht h
    | [], hx => simp at hx
    | [_], hx => simp at hx
    | _ :: _ :: _ :: _, hx => simp at hx
  · rename_i x y t t' hx ht
    generalize ha : args.toList = al at hx
    match al, hx with
    | [p, q], hx =>
      simp only [List.map_cons, List.map_nil, List.cons.injEq, and_true] at hx; obtain ⟨rfl, rfl⟩ := hx
      unfold compUStr
      split
      · rename_i hty
        obtain ⟨i, i1, i2, i3, i4, i5⟩ := tyAt_ok hty
        exact ustr_ok P o t t' _ p q args tys ha ht i5 h
      · exact no_ok P o
    | [], hx => simp at hx
    | [_], hx => simp at hx
    | _ :: _ :: _ :: _, hx => simp at hx
  · rename_i x t hx ht
    generalize ha : args.toList = al at hx
    match al, hx with
    | [p], hx => simp only [List.map_cons, List.map_nil, List.cons.injEq, and_true] at hx; subst hx; exact clear_ok P o t p args tys ha ht h
    | [], hx => simp at hx
    | _ :: _ :: _, hx => simp at hx
  · rename_i x hx
    generalize ha : args.toList = al at hx
    match al, hx with
    | [p], hx => simp only [List.map_cons, List.map_nil, List.cons.injEq, and_true] at hx; subst hx; exact close_ok P o p args tys ha h
    | [], hx => simp at hx
    | _ :: _ :: _, hx => simp at hx
  · exact no_ok P o
theorem compFn1_ok (P : Program) (o : Oper) (f : FuncId) (args : Array Operand) (tys : Array TypeId) (h : o.op = .call ⟨.value (.func f), args, tys⟩) : RunOk P o (runK (compFn1 P f (args.toList.map compO))) := by
  unfold compFn1
  split
  · exact call_ok P o f args tys h
  · rename_i fn hf
    split
    · exact call_ok P o f args tys h
    · rename_i hb
      unfold compExt
      split
      · rename_i hn
        simp only [Bool.and_eq_true, beq_iff_eq] at hn
        split
        · rename_i x hx
          generalize ha : args.toList = al at hx
          match al, hx with
          | [p], hx => simp only [List.map_cons, List.map_nil, List.cons.injEq, and_true] at hx; subst hx; exact ext_ok P o f fn hf hb p args tys ha hn.1 hn.2 h
          | [], hx => simp at hx
          | _ :: _ :: _, hx => simp at hx
        · exact no_ok P o
      · unfold compExt2
        split
        · rename_i hn
          simp only [Bool.and_eq_true, beq_iff_eq] at hn
          split
          · rename_i x y hx
            generalize ha : args.toList = al at hx
            match al, hx with
            | [p, q], hx =>
              simp only [List.map_cons, List.map_nil, List.cons.injEq, and_true] at hx
              obtain ⟨rfl, rfl⟩ := hx
              exact cmpS_ok P o f fn hf hb p q args tys ha hn.1 hn.2 h
            | [], hx => simp at hx
            | [_], hx => simp at hx
            | _ :: _ :: _ :: _, hx => simp at hx
          · exact no_ok P o
        · exact call_ok P o f args tys h
theorem callop_ok (P : Program) (o : Oper) (c : Call) (h : o.op = .call c) : RunOk P o (runK (compCall P c)) := by
  obtain ⟨cal, args, tys⟩ := c
  cases cal with
  | builtin b => exact builtin_ok P o b args tys h
  | invoke r m => exact no_ok P o
  | value f =>
    cases f with
    | func f => exact compFn1_ok P o f args tys h
    | tmp n => exact callV_ok P o n args tys h
    | const _ => exact no_ok P o
    | global _ => exact no_ok P o
/-- EVERY OPERATION: what the evaluator makes of it is what the model makes of it. -/
theorem compOp_ok (P : Program) (o : Oper) : RunOk P o (runK (compOp P o.op)) := by
  cases h : o.op with
  | move x => exact move_ok P o x (.inl h)
  | assign x => exact move_ok P o x (.inr h)
  | pick c x y => exact pick_ok P o c x y h
  | alloc e => exact zalloc_ok P o e h
  | box e x => exact box_ok P o e x h
  | build t ps => exact build_ok P o t ps h
  | buildSlice t n ps => exact buildSlice_ok P o t n ps h
  | load t x => exact load_ok P o t x h
  | store t x y => exact storeop_ok P o t x y h
  | binOp op tx x y ty => exact binop_ok P o op tx ty x y h
  | unOp op tx x => exact unop_ok P o op tx x h
  | convert s d x => exact conv_ok P o s d x h
  | makeSlice t l c => exact makeSlice_ok P o t l c h
  | fieldAddr t x n => exact fieldAddr_ok P o t x n h
  | field t x n => exact field_ok P o t x n h
  | indexAddr t x y => exact indexAddr_ok P o t x y h
  | extract x n => exact extract_ok P o x n h
  | nilCheck x => exact nilCheck_ok P o x h
  | index t x y => exact index_ok P o t x y h
  | slice t x lo hi mx => exact slice_ok P o t x lo hi mx h
  | call c => exact callop_ok P o c h
  | lookup t x q ok => exact lookup_ok P o t x q ok h
  | mapUpdate t x q v => exact mapSet_ok P o t x q v h
  | makeMap t r => exact makeMap_ok P o t r h
  | makeFunc fn first cap => exact mkF_ok P o fn first cap h
  | makeChan t n => exact makeChan_ok P o t n h
  | _ => exact no_ok P o
end Go.Ev
