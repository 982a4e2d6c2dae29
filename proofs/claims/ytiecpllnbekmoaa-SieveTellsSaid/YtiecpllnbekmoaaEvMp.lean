/-
  The evaluator against the model: maps.
-/
import Derived.Test.YtiecpllnbekmoaaEvG
import Derived.MapKept
set_option linter.all false
namespace Go.Ev
open Go Go.MapKept

theorem getP_ok : ∀ (n : Nat) (t : T V) (o : Nat) (k : List (V × V) → Bool), getP n t o k = true →
    ∃ ps, (∀ k', getP n t o k' = k' ps) ∧ ps.length = n ∧ ∀ (i : Nat) kv, ps[i]? = some kv → t.getN (o + 2 * i) = some kv.1 ∧ t.getN (o + 2 * i + 1) = some kv.2 := by
  intro n
  induction n with
  | zero => intro t o k _; exact ⟨[], fun _ => rfl, rfl, fun i kv h => by simp at h⟩
  | succ n ih =>
    intro t o k h
    have e : ∀ k', getP (n + 1) t o k' = optK (t.getN o) fun a => optK (t.getN (o + 1)) fun b => getP n t (o + 2) fun ps => k' ((a, b) :: ps) := fun _ => rfl
    rw [e] at h
    obtain ⟨a, ha, h⟩ := optK_ok h
    obtain ⟨b, hb, h⟩ := optK_ok h
    obtain ⟨ps, h1, h2, h3⟩ := ih _ _ _ h
    refine ⟨(a, b) :: ps, fun k' => by rw [e, ha, optK_some, hb, optK_some, h1], by simp [h2], fun i kv hi => ?_⟩
    cases i with
    | zero => simp at hi; subst hi; exact ⟨by simpa using ha, by simpa using hb⟩
    | succ i =>
      have := h3 i kv (by simpa using hi)
      rw [show o + 2 * (i + 1) = o + 2 + 2 * i by omega]
      exact this
theorem getP_fine : ∀ (n : Nat) (t : T V) (o : Nat) (ps : List (V × V)), ps.length = n → (∀ (i : Nat) kv, ps[i]? = some kv → t.getN (o + 2 * i) = some kv.1 ∧ t.getN (o + 2 * i + 1) = some kv.2) → ∀ k, getP n t o k = k ps := by
  intro n
  induction n with
  | zero => intro t o ps hl _ k; have : ps = [] := List.eq_nil_of_length_eq_zero hl
            subst this; rfl
  | succ n ih =>
    intro t o ps hl h k
    match ps, hl with
    | (a, b) :: r, hl =>
      obtain ⟨h0, h0'⟩ := h 0 (a, b) rfl
      have e : getP (n + 1) t o k = optK (t.getN o) fun a => optK (t.getN (o + 1)) fun b => getP n t (o + 2) fun ps => k ((a, b) :: ps) := rfl
      rw [e, show t.getN o = some a from h0, optK_some, show t.getN (o + 1) = some b from h0', optK_some]
      rw [ih t (o + 2) r (by simpa using hl) fun i kv hi => by
        have := h (i + 1) kv (by simpa using hi)
        rwa [show o + 2 * (i + 1) = o + 2 + 2 * i by omega] at this]
theorem RdP.uniq {t : T V} {n : Nat} {ps qs : List (V × V)} (a : RdP t n ps) (b : RdP t n qs) : ps = qs := by
  apply List.ext_getElem (by rw [a.1, b.1])
  intro i h1 h2
  have e1 : ps[i]? = some ps[i] := by simp
  have e2 : qs[i]? = some qs[i] := by simp
  obtain ⟨a1, a2⟩ := a.2 i _ e1
  obtain ⟨b1, b2⟩ := b.2 i _ e2
  rw [a1] at b1
  rw [a2] at b2
  exact Prod.ext (Option.some.inj b1) (Option.some.inj b2)
theorem flat2_len : ∀ ps : List (V × V), (flat2 ps).length = 2 * ps.length
  | [] => rfl
  | (a, b) :: r => by show (a :: b :: flat2 r).length = _; simp [flat2_len r]; omega
theorem flat2_get : ∀ (ps : List (V × V)) (i : Nat) kv, ps[i]? = some kv → (flat2 ps)[2 * i]? = some kv.1 ∧ (flat2 ps)[2 * i + 1]? = some kv.2
  | [], i, kv, h => by simp at h
  | (a, b) :: r, 0, kv, h => by simp at h; subst h; exact ⟨rfl, rfl⟩
  | (a, b) :: r, i + 1, kv, h => by
    have := flat2_get r i kv (by simpa using h)
    rw [show 2 * (i + 1) = 2 * i + 1 + 1 by omega]
    exact ⟨by simpa [flat2] using this.1, by simpa [flat2] using this.2⟩

theorem mapK_ok {h : H} {id : B} {k : B → B → T Blk → Nat → Nat → Nat → Nat → List (V × V) → Bool} (hk : mapK h id k = true) :
    ∃ next floor heap cur min size cells n fr ps, h = ⟨next, floor, heap⟩ ∧ heap.get id = some ⟨cur, min, size, cells, n, fr⟩ ∧ min = cur + 7 ∧ RdP cells n ps ∧ ∀ k', mapK h id k' = k' next floor heap cur min size fr ps := by
  obtain ⟨next, floor, heap⟩ := h
  simp only [mapK, hK_mk] at hk
  obtain ⟨⟨cur, min, size, cells, n, fr⟩, hb, hk⟩ := optK_ok hk
  simp only [blkK_mk] at hk
  obtain ⟨hm, hk⟩ := ifK_ok hk
  obtain ⟨ps, h1, h2, h3⟩ := getP_ok _ _ _ _ hk
  refine ⟨next, floor, heap, cur, min, size, cells, n, fr, ps, rfl, hb, Nat.eq_of_beq_eq_true hm, ⟨h2, fun i kv hi => by simpa using h3 i kv hi⟩, fun k' => ?_⟩
  simp only [mapK, hK_mk, hb, optK_some, blkK_mk, hm, ifK_true, h1]
theorem map_world {ρ : Emb} {h : H} {w w0 : World} {id : B} {x : Value} {blk : Blk} {ps : List (V × V)} (R : HRel ρ h w w0) (hv : VRel ρ (.m id) x) (hb : h.heap.get id = some blk) (hm : blk.min = blk.cur + 7) (hp : RdP blk.cells blk.el ps) :
    ∃ L es clock, ρ id 0 = some L ∧ x = .map (some L.b) ∧ w.heap[L.b]? = some (.map es clock) ∧ MapP ρ ps es clock := by
  obtain ⟨L, h1, h2⟩ := hv
  obtain ⟨es, clock, h3, qs, h4, h5⟩ := R.mp id L blk h1 hb hm
  obtain rfl := hp.uniq h4
  exact ⟨L, es, clock, h1, h2, h3, h5⟩

/-! ### Keys -/
def kindD : Option IntKind → TypeDesc
  | none => .string
  | some k => .int k
theorem keyKind_ok {P : Program} {t : TypeId} {kd : Option IntKind} (h : keyKind (tyAt P t) = some kd) : P.underlying t = some (kindD kd) := by
  cases ht : tyAt P t with
  | none => rw [ht] at h; cases h
  | some ty =>
    rw [ht] at h
    obtain ⟨s, b, d, z⟩ := ty
    obtain ⟨i, i1, i2, i3, i4, i5⟩ := tyAt_ok ht
    cases d <;> first | (cases h; exact i5) | cases h
theorem keyEq_ok {ρ : Emb} {kd : Option IntKind} {a b : V} {r : Bool} {x y : Value} (h : keyEq kd a b = some r) (hx : VRel ρ a x) (hy : VRel ρ b y) : IsKey (kindD kd) x ∧ IsKey (kindD kd) y ∧ (r = true ↔ x = y) := by
  cases kd with
  | none =>
    cases a <;> cases b <;> try cases h
    rename_i l n l' n'
    obtain ⟨bs, rfl, e1, e2, _⟩ := srel hx
    obtain ⟨bs', rfl, e3, e4, _⟩ := srel hy
    refine ⟨trivial, trivial, ?_⟩
    have := eqS_pk bs bs'
    rw [e1, e2, e3, e4] at this
    rw [← this]
    constructor
    · intro q
      have q : bs.toList = bs'.toList := by simpa using q
      rw [ByteArray.toList_eq, ByteArray.toList_eq] at q
      obtain ⟨⟨l1⟩⟩ := bs
      obtain ⟨⟨l2⟩⟩ := bs'
      cases q; rfl
    · intro q; cases q; simp
  | some k =>
    cases a <;> cases b <;> try cases h
    rename_i kd n kd' n'
    have h' : (match kdEq kd k && kdEq kd' k with | true => some (eqI n n') | false => none) = some r := h
    cases hk : (kdEq kd k && kdEq kd' k) with
    | false => rw [hk] at h'; cases h'
    | true =>
      rw [hk] at h'
      rw [Bool.and_eq_true] at hk
      have e1 := kdEq_ok hk.1
      have e2 := kdEq_ok hk.2
      subst e1; subst e2
      have hx' : x = .int kd' n := hx
      have hy' : y = .int kd' n' := hy
      subst hx'; subst hy'
      have h'' : eqI n n' = r := Option.some.inj h'
      refine ⟨rfl, rfl, ?_⟩
      rw [← h'', eqI_eq]
      simp
theorem F2.length {ρ : Emb} {ps : List (V × V)} {l : List MapEntry} (f : F2 ρ ps l) : ps.length = l.length := by
  induction f with
  | nil => rfl
  | cons _ _ _ ih => simp [ih]
theorem F2.get {ρ : Emb} {ps : List (V × V)} {l : List MapEntry} (f : F2 ρ ps l) : ∀ {i : Nat} {e : MapEntry}, l[i]? = some e → ∃ kv, ps[i]? = some kv ∧ VRel ρ kv.1 e.key ∧ VRel ρ kv.2 e.val := by
  induction f with
  | nil => intro i e h; simp at h
  | cons a b _ ih =>
    intro i e h
    cases i with
    | zero => simp at h; subst h; exact ⟨_, rfl, a, b⟩
    | succ i => exact ih (by simpa using h)
theorem findP_ok {ρ : Emb} {kd : Option IntKind} {q : V} {y : Value} (hy : VRel ρ q y) {ps : List (V × V)} {l : List MapEntry} (f : F2 ρ ps l) : ∀ {r : Option Nat}, findP kd q ps = some r →
    IsKey (kindD kd) y ∧ (∀ e ∈ l, IsKey (kindD kd) e.key) ∧ (r = none → ∀ e ∈ l, e.key ≠ y) ∧ ∀ i, r = some i → ∃ e, l[i]? = some e ∧ e.key = y := by
  induction f with
  | nil =>
    intro r h
    unfold findP at h
    cases hq : keyEq kd q q with
    | none => rw [hq] at h; cases h
    | some b =>
      rw [hq] at h
      cases h
      exact ⟨(keyEq_ok hq hy hy).1, fun e he => (by cases he), fun _ e he => (by cases he), fun i hi => (by cases hi)⟩
  | @cons k v e ps es a b _ ih =>
    intro r h
    unfold findP at h
    cases hq : keyEq kd q k with
    | none => rw [hq] at h; cases h
    | some c =>
      rw [hq] at h
      cases hr : findP kd q ps with
      | none => rw [hr] at h; cases c <;> cases h
      | some s =>
        rw [hr] at h
        obtain ⟨i1, i2, i3, i4⟩ := ih hr
        obtain ⟨j1, j2, j3⟩ := keyEq_ok hq hy a
        have hall : ∀ x ∈ e :: es, IsKey (kindD kd) x.key := fun x hx => by
          rcases List.mem_cons.1 hx with rfl | hx
          · exact j2
          · exact i2 x hx
        cases c with
        | true =>
          cases h
          exact ⟨i1, hall, fun h => (by cases h), fun i hi => by cases hi; exact ⟨e, rfl, (j3.1 rfl).symm⟩⟩
        | false =>
          have hne : e.key ≠ y := fun q => by have := j3.2 q.symm; cases this
          cases s with
          | none =>
            cases h
            refine ⟨i1, hall, fun _ x hx => ?_, fun i hi => (by cases hi)⟩
            rcases List.mem_cons.1 hx with rfl | hx
            · exact hne
            · exact i3 rfl x hx
          | some n =>
            cases h
            refine ⟨i1, hall, fun h => (by cases h), fun i hi => ?_⟩
            cases hi
            obtain ⟨x, x1, x2⟩ := i4 n rfl
            exact ⟨x, by simpa using x1, x2⟩
theorem key_uniq {es : Array MapEntry} {clock : Nat} (st : Stamped es clock) {i j : Nat} {e f : MapEntry} (hi : es.toList[i]? = some e) (hj : es.toList[j]? = some f) (h : e.key = f.key) : i = j := by
  have hp := ((stamped_iff es clock).1 st).2.2
  rw [List.pairwise_iff_getElem] at hp
  obtain ⟨h1, e1⟩ := List.getElem?_eq_some_iff.1 hi
  obtain ⟨h2, e2⟩ := List.getElem?_eq_some_iff.1 hj
  rcases Nat.lt_trichotomy i j with hlt | he | hlt
  · exact absurd (by rw [e1, e2]; exact h) (hp i j h1 h2 hlt)
  · exact he
  · exact absurd (by rw [e1, e2]; exact h.symm) (hp j i h2 h1 hlt)
/-- what 'findNow' finds -/
theorem find_world {ρ : Emb} {kd : Option IntKind} {q : V} {y : Value} {ps : List (V × V)} {es : Array MapEntry} {clock : Nat} {r : Option Nat} (m : MapP ρ ps es clock) (hy : VRel ρ q y) (hf : findP kd q ps = some r) :
    IsKey (kindD kd) y ∧ (∀ e ∈ es.toList, IsKey (kindD kd) e.key) ∧
    ((r = none ∧ Instr.findNow (kindD kd) y es.toList 0 = some none ∧ ∀ e ∈ es.toList, e.key ≠ y) ∨
     ∃ i j e l kv, r = some i ∧ Instr.findNow (kindD kd) y es.toList 0 = some (some (j, e.val)) ∧ es.toList[j]? = some e ∧ e.key = y ∧ l.Perm es.toList ∧ F2 ρ ps l ∧ l[i]? = some e ∧ ps[i]? = some kv ∧ VRel ρ kv.1 e.key ∧ VRel ρ kv.2 e.val) := by
  obtain ⟨l, l1, l2⟩ := m.rel
  obtain ⟨a1, a2, a3, a4⟩ := findP_ok hy l2 hf
  have hes : ∀ e ∈ es.toList, IsKey (kindD kd) e.key := fun e he => a2 e (l1.mem_iff.2 he)
  refine ⟨a1, hes, ?_⟩
  rcases findNow_spec a1 es.toList 0 hes with ⟨h1, h2⟩ | ⟨j, e, h1, h2, h3⟩
  · cases r with
    | none => exact .inl ⟨rfl, h1, h2⟩
    | some i =>
      obtain ⟨e, e1, e2⟩ := a4 i rfl
      exact absurd e2 (h2 e (l1.mem_iff.1 (List.mem_of_getElem? e1)))
  · cases r with
    | none => exact absurd h3 (a3 rfl e (l1.mem_iff.2 (List.mem_of_getElem? h2)))
    | some i =>
      obtain ⟨f, f1, f2⟩ := a4 i rfl
      obtain ⟨jf, hjf⟩ := List.mem_iff_getElem?.1 (l1.mem_iff.1 (List.mem_of_getElem? f1))
      have : jf = j := key_uniq m.st hjf h2 (by rw [f2, h3])
      subst this
      rw [h2] at hjf
      cases hjf
      obtain ⟨kv, k1, k2, k3⟩ := l2.get f1
      exact .inr ⟨i, jf, e, l, kv, rfl, by rw [h1, Nat.zero_add], h2, h3, l1, l2, f1, k1, k2, k3⟩
theorem zeroV_ok {P : Program} {t : TypeId} {z : V} (h : zeroV P t = some z) (ρ : Emb) : ∃ v, (∀ w, (zeroValue t).run P w = .ok v w) ∧ VRel ρ z v := by
  have look : ∀ {i : TypeInfo}, P.types.toList[t]? = some i → P.info? t = some i := by
    intro i hu
    have hu' : P.types[t]? = some i := by simpa using hu
    have hlt : t < P.types.size := (Array.getElem?_eq_some_iff.1 hu').1
    simp only [Tables.info?, hlt, if_true]
    exact hu'
  unfold zeroV at h
  split at h
  · rename_i i hi
    split at h
    · rename_i cs hz
      cases h
      refine ⟨_, fun w => run_zero' (look hi) hz w, _, rfl, ?_⟩
      show LRel ρ _ cs
      clear hz
      induction cs with
      | nil => trivial
      | cons c cs ih => exact ⟨ofConst_rel ρ c, ih⟩
    · rename_i v _ hz
      cases h
      exact ⟨v, fun w => run_zero' (look hi) hz w, ofConst_rel ρ v⟩
    · cases h
  · cases h

theorem lookup_ok (P : Program) (o : Oper) (t : TypeId) (x q : Operand) (ok : Bool) (h : o.op = .lookup t x q ok) : RunOk P o (runK (compLookup P t (compO x) (compO q) ok)) := by
  cases ht : tyAt P t with
  | none => simp only [compLookup, ht]; exact no_ok P o
  | some ty =>
    obtain ⟨s1, s2, d, s4⟩ := ty
    obtain ⟨i, i1, i2, i3, i4, i5⟩ := tyAt_ok ht
    cases d <;> simp only [compLookup, ht] <;> try exact no_ok P o
    rename_i kt e
    cases hkk : keyKind (tyAt P kt) with
    | none => exact no_ok P o
    | some kd =>
    cases hz : zeroV P e with
    | none => exact no_ok P o
    | some z =>
    have hkt := keyKind_ok hkk
    have res : ∀ {ρ : Emb} {v : V} {y : Value} (b : Bool), VRel ρ v y → VRel ρ (lkRes ok v b) (if ok then .tuple #[y, .bool b] else y) := fun b hv => by
      cases ok
      · exact hv
      · exact ⟨_, rfl, hv, rfl, trivial⟩
    refine RunOk.pure (by rw [h]; rfl) fun cf fr hp k hk => ?_
    simp only [runK_mk, doLookup, oE_eq] at hk
    cases hx : oV (compO x) fr <;> rw [hx] at hk <;> try exact Bool.noConfusion hk
    · obtain ⟨b, hb, _⟩ := optK_ok hk
      refine ⟨lkRes ok z false, fun k' => by simp only [runK_mk, doLookup, oE_eq, hx, vM, hb, optK_some], fun ρ a A w w0 R => ?_⟩
      have ex := A x (by rw [h]; simp [Op.operands])
      rw [hx] at ex
      have ex' : a.eval x = .map none := ex
      have eq := A q (by rw [h]; simp [Op.operands])
      obtain ⟨zv, z1, z2⟩ := zeroV_ok hz ρ
      refine ⟨_, ?_, res false z2⟩
      have hf : Instr.findNow (kindD kd) (a.eval q) [] 0 = some none := rfl
      unfold execOp
      rw [h]
      simp only [ex', Instr.lookup, Sem.run_bind, run_underlying i5, Result.andThen_ok, Sem.run_pure', Go.MapKept.run_checkKey hkt (keyEq_ok hb eq eq).1, Go.MapKept.run_findKey hkt hf, z1 w]
    · rename_i id
      obtain ⟨next, floor, heap, cur, min, size, cells, n, frz, ps, rfl, hb, hm, hp', hK⟩ := mapK_ok hk
      simp only [vM] at hk
      rw [hK] at hk
      obtain ⟨r, hr, _⟩ := optK_ok hk
      cases r with
      | none =>
        refine ⟨lkRes ok z false, fun k' => by simp only [runK_mk, doLookup, oE_eq, hx, vM, hK, hr, optK_some], fun ρ a A w w0 R => ?_⟩
        have ex := A x (by rw [h]; simp [Op.operands])
        rw [hx] at ex
        have eq := A q (by rw [h]; simp [Op.operands])
        obtain ⟨L, es, clock, l1, l2, l3, l4⟩ := map_world R ex hb hm hp'
        obtain ⟨f1, f2, f3⟩ := find_world l4 eq hr
        obtain ⟨zv, z1, z2⟩ := zeroV_ok hz ρ
        refine ⟨_, ?_, res false z2⟩
        rcases f3 with ⟨_, g1, _⟩ | ⟨i, _, _, _, _, g, _⟩
        · unfold execOp
          rw [h]
          simp only [l2, Instr.lookup, Sem.run_bind, run_underlying i5, Result.andThen_ok, Go.MapKept.run_getObj_map l3, Sem.run_pure', Go.MapKept.run_checkKey hkt f1, Go.MapKept.run_findKey hkt g1, z1 w]
        · cases g
      | some i =>
        refine ⟨lkRes ok ((ps.getD i (.u, .u)).2) true, fun k' => by simp only [runK_mk, doLookup, oE_eq, hx, vM, hK, hr, optK_some], fun ρ a A w w0 R => ?_⟩
        have ex := A x (by rw [h]; simp [Op.operands])
        rw [hx] at ex
        have eq := A q (by rw [h]; simp [Op.operands])
        obtain ⟨L, es, clock, l1, l2, l3, l4⟩ := map_world R ex hb hm hp'
        obtain ⟨f1, f2, f3⟩ := find_world l4 eq hr
        rcases f3 with ⟨g, _⟩ | ⟨i', j, e', l, kv, g, g1, g2, g3, g4, g5, g6, g7, g8, g9⟩
        · cases g
        · cases g
          refine ⟨_, ?_, res (y := e'.val) true (by simp only [List.getD_eq_getElem?_getD, g7, Option.getD_some]; exact g9)⟩
          unfold execOp
          rw [h]
          simp only [l2, Instr.lookup, Sem.run_bind, run_underlying i5, Result.andThen_ok, Go.MapKept.run_getObj_map l3, Sem.run_pure', Go.MapKept.run_checkKey hkt f1, Go.MapKept.run_findKey hkt g1]

/-! ### Writing -/
theorem setHeap_get {w : World} {b : Nat} {o o' : Obj} (hb : w.heap[b]? = some o) : ({ w with heap := w.heap.setIfInBounds b o' } : World).heap[b]? = some o' := (heap_set hb).1
theorem setHeap_other {w : World} {b c : Nat} {o o' : Obj} (hb : w.heap[b]? = some o) (h : c ≠ b) : ({ w with heap := w.heap.setIfInBounds b o' } : World).heap[c]? = w.heap[c]? := (heap_set hb).2 c h
theorem setHeap_size (w : World) (b : Nat) (o' : Obj) : ({ w with heap := w.heap.setIfInBounds b o' } : World).heap.size = w.heap.size := by simp
theorem putM_ok {next floor : B} {heap : T Blk} {id : B} {cur min size fr : Nat} {cells : T V} {n : Nat} {ps qs : List (V × V)} {k : H → Bool} (hb : heap.get id = some ⟨cur, min, size, cells, n, fr⟩) (hm : min = cur + 7) (hp : RdP cells n ps)
    (hk : putM next floor heap id cur min size fr qs k = true) :
    ∃ h', (∀ k', putM next floor heap id cur min size fr qs k' = k' h') ∧ KeepF ⟨next, floor, heap⟩ h' ∧ h'.next = next ∧
      ∀ ρ w w0 L es clock es' clock', HRel ρ ⟨next, floor, heap⟩ w w0 → ρ id 0 = some L → w.heap[L.b]? = some (.map es clock) → MapP ρ qs es' clock' → HRel ρ h' { w with heap := w.heap.setIfInBounds L.b (.map es' clock') } w0 := by
  unfold putM at hk
  obtain ⟨hfl, hk⟩ := ifK_ok hk
  obtain ⟨t, h1, h2, h3⟩ := setList_ok _ _ _ _ hk
  obtain ⟨hp', h4, h5, h6⟩ := setK_ok id (⟨cur, min, size, t, qs.length, fr⟩ : Blk) heap
  refine ⟨⟨next, floor, hp'⟩, fun k' => by unfold putM; rw [hfl]; simp only [ifK_true]; rw [h1, h4], ⟨rfl, fun hf i hi => h6 i (fun e => by rw [e] at hi; exact absurd (geB_ok hfl) (Nat.not_le.2 hi))⟩, rfl, fun ρ w w0 L es clock es' clock' R hL hwb m => ?_⟩
  have oth : ∀ {i : B} {g : Nat} {M : Loc}, ρ i g = some M → i ≠ id → ({ w with heap := w.heap.setIfInBounds L.b (.map es' clock') } : World).heap[M.b]? = w.heap[M.b]? := fun {i g M} hM hi => setHeap_other hwb fun e => hi (R.sep _ _ _ _ _ _ hM hL e).1
  refine ⟨fun i g M hM => ?_, R.ids, R.sep, R.flo, fun b hb' => ?_, R.up, R.tp, R.os, R.out, by rw [setHeap_size]; exact R.siz, fun i M blk hM hblk hmm => ?_, R.ito.of fun i g M blk hM hblk hg hmm => ?_⟩
  · obtain ⟨blk, a1, a2, a3, a4, a5, a6, a7⟩ := R.loc _ _ _ hM
    by_cases hi : i = id
    · subst hi
      have hbe : blk = ⟨cur, min, size, cells, n, fr⟩ := by
        have : heap.get i = some blk := a1
        rw [hb] at this; exact (Option.some.inj this).symm
      subst hbe
      refine ⟨_, h5, a2, by rw [setHeap_size]; exact a3, a4, a5, a6, fun hmg => ?_⟩
      have h1' : g ≤ cur := a2
      have h2' : min ≤ g := hmg
      omega
    · refine ⟨blk, (h6 i hi).trans a1, a2, by rw [setHeap_size]; exact a3, a4, a5, a6, fun hmg => ?_⟩
      obtain ⟨c, el, b1, b2, b3, b4⟩ := a7 hmg
      exact ⟨c, el, b1.congr (oth hM hi), b2, b3, b4⟩
  · rw [setHeap_other hwb]
    · exact R.old b hb'
    · have := R.up _ _ _ hL (geB_ok hfl); omega
  · by_cases hi : i = id
    · subst hi
      have hb2 : hp'.get i = some blk := hblk
      rw [h5] at hb2
      have hb3 := Option.some.inj hb2
      subst hb3
      have : M = L := by rw [hM] at hL; exact Option.some.inj hL
      subst this
      refine ⟨es', clock', setHeap_get hwb, qs, ⟨rfl, fun j kv hj => ?_⟩, m⟩
      obtain ⟨f1, f2⟩ := flat2_get qs j kv hj
      exact ⟨by have := h2 _ _ f1; rwa [Nat.zero_add] at this, by have := h2 _ _ f2; rwa [Nat.zero_add] at this⟩
    · obtain ⟨es1, clock1, q1, q2⟩ := R.mp i M blk hM ((h6 i hi).symm.trans hblk) hmm
      exact ⟨es1, clock1, (oth hM hi).trans q1, q2⟩
  · by_cases hi : i = id
    · subst hi
      have hb2 : hp'.get i = some blk := hblk
      rw [h5] at hb2
      have hb3 := Option.some.inj hb2
      subst hb3
      have hmm : min = cur + 9 := hmm
      omega
    · exact ⟨hM, (h6 i hi).symm.trans hblk, oth hM hi⟩

theorem set_perm {α : Type} : ∀ (l : List α) (i : Nat) (a : α), i < l.length → (l.set i a).Perm (a :: l.eraseIdx i)
  | [], i, a, h => by simp at h
  | x :: l, 0, a, h => by simp
  | x :: l, i + 1, a, h => by
    have := set_perm l i a (by simpa using h)
    simp only [List.set_cons_succ, List.eraseIdx_cons_succ]
    exact (this.cons x).trans (List.Perm.swap a x _)
theorem get_perm {α : Type} : ∀ (l : List α) (i : Nat) (a : α), l[i]? = some a → l.Perm (a :: l.eraseIdx i)
  | [], i, a, h => by simp at h
  | x :: l, 0, a, h => by simp at h; subst h; simp
  | x :: l, i + 1, a, h => by
    have := get_perm l i a (by simpa using h)
    simp only [List.eraseIdx_cons_succ]
    exact (this.cons x).trans (List.Perm.swap a x _)
theorem erase_perm {α : Type} {l m : List α} (h : l.Perm m) {i j : Nat} {a : α} (hi : l[i]? = some a) (hj : m[j]? = some a) : (l.eraseIdx i).Perm (m.eraseIdx j) :=
  (((get_perm l i a hi).symm.trans h).trans (get_perm m j a hj)).cons_inv
theorem F2.set {ρ : Emb} {ps : List (V × V)} {l : List MapEntry} (f : F2 ρ ps l) {k v : V} {e : MapEntry} (hk : VRel ρ k e.key) (hv : VRel ρ v e.val) : ∀ (i : Nat), F2 ρ (ps.set i (k, v)) (l.set i e) := by
  induction f with
  | nil => intro i; exact .nil
  | cons a b c ih =>
    intro i
    cases i with
    | zero => exact .cons hk hv c
    | succ i => exact .cons a b (ih i)
theorem F2.erase {ρ : Emb} {ps : List (V × V)} {l : List MapEntry} (f : F2 ρ ps l) : ∀ (i : Nat), F2 ρ (ps.eraseIdx i) (l.eraseIdx i) := by
  induction f with
  | nil => intro i; exact .nil
  | cons a b c ih =>
    intro i
    cases i with
    | zero => exact c
    | succ i => exact .cons a b (ih i)
theorem F2.snoc {ρ : Emb} {ps : List (V × V)} {l : List MapEntry} (f : F2 ρ ps l) {k v : V} {e : MapEntry} (hk : VRel ρ k e.key) (hv : VRel ρ v e.val) : F2 ρ (ps ++ [(k, v)]) (l ++ [e]) := by
  induction f with
  | nil => exact .cons hk hv .nil
  | cons a b c ih => exact .cons a b ih

theorem mapSet_ok (P : Program) (o : Oper) (t : TypeId) (x q v : Operand) (h : o.op = .mapUpdate t x q v) : RunOk P o (runK (compMapSet P t (compO x) (compO q) (compO v))) := by
  cases ht : tyAt P t with
  | none => simp only [compMapSet, ht]; exact no_ok P o
  | some ty =>
    obtain ⟨s1, s2, d, s4⟩ := ty
    obtain ⟨i, i1, i2, i3, i4, i5⟩ := tyAt_ok ht
    cases d <;> simp only [compMapSet, ht] <;> try exact no_ok P o
    rename_i kt e
    cases hkk : keyKind (tyAt P kt) with
    | none => exact no_ok P o
    | some kd =>
    have hkt := keyKind_ok hkk
    intro cf _ fr hp k hk
    simp only [runK_mk, doMapSet, oE_eq] at hk
    cases hx : oV (compO x) fr <;> rw [hx] at hk <;> try exact Bool.noConfusion hk
    rename_i id
    obtain ⟨next, floor, heap, cur, min, size, cells, n, frz, ps, rfl, hb, hm, hp', hK⟩ := mapK_ok hk
    simp only [vM] at hk
    rw [hK] at hk
    obtain ⟨r, hr, hk⟩ := optK_ok hk
    cases r with
    | none =>
      obtain ⟨h', p1, p2, p3, p4⟩ := putM_ok hb hm hp' hk
      refine ⟨.tu [], h', fun k' => by simp only [runK_mk, doMapSet, oE_eq, hx, vM, hK, hr, optK_some, p1], p2, by rw [p3]; exact Nat.le_refl _, fun ρ a w w0 A R => ?_, fun hs => by rw [h] at hs; exact Bool.noConfusion hs⟩
      have ex := A x (by rw [h]; simp [Op.operands])
      rw [hx] at ex
      have eq := A q (by rw [h]; simp [Op.operands])
      have ev := A v (by rw [h]; simp [Op.operands])
      obtain ⟨L, es, clock, l1, l2, l3, l4⟩ := map_world R ex hb hm hp'
      obtain ⟨f1, f2, f3⟩ := find_world l4 eq hr
      rcases f3 with ⟨_, g1, g2⟩ | ⟨i, _, _, _, _, g, _⟩
      · obtain ⟨l, m1, m2⟩ := l4.rel
        refine ⟨.skip, _, ?_, ρ, Ext.refl _ ρ, ⟨#[], rfl, trivial⟩, p4 ρ w w0 L es clock (es.push { key := a.eval q, val := a.eval v, born := clock }) (clock + 1) R l1 l3 ⟨⟨l ++ [{ key := a.eval q, val := a.eval v, born := clock }], ?_, m2.snoc eq ev⟩, stamped_push l4.st g2⟩⟩
        · unfold execOp
          rw [h]
          simp only [l2, Instr.mapUpdate, Sem.run_bind, run_underlying i5, Result.andThen_ok, Go.MapKept.run_getObj_map l3, Go.MapKept.run_checkKey hkt f1, Go.MapKept.run_findKey hkt g1, run_setObj_map _ l3]
          rfl
        · rw [Array.toList_push]; exact m1.append_right _
      · cases g
    | some i0 =>
      obtain ⟨h', p1, p2, p3, p4⟩ := putM_ok hb hm hp' hk
      refine ⟨.tu [], h', fun k' => by simp only [runK_mk, doMapSet, oE_eq, hx, vM, hK, hr, optK_some, p1], p2, by rw [p3]; exact Nat.le_refl _, fun ρ a w w0 A R => ?_, fun hs => by rw [h] at hs; exact Bool.noConfusion hs⟩
      have ex := A x (by rw [h]; simp [Op.operands])
      rw [hx] at ex
      have eq := A q (by rw [h]; simp [Op.operands])
      have ev := A v (by rw [h]; simp [Op.operands])
      obtain ⟨L, es, clock, l1, l2, l3, l4⟩ := map_world R ex hb hm hp'
      obtain ⟨f1, f2, f3⟩ := find_world l4 eq hr
      rcases f3 with ⟨g, _⟩ | ⟨i', j, e', l, kv, g, g1, g2, g3, g4, g5, g6, g7, g8, g9⟩
      · cases g
      · cases g
        have hj : es[j]? = some e' := by rw [← Array.getElem?_toList]; exact g2
        have hmod : (es.modify j fun e => { e with key := a.eval q, val := a.eval v }).toList = es.toList.set j { e' with key := a.eval q, val := a.eval v } := by
          apply List.ext_getElem?
          intro n
          rw [Array.getElem?_toList, Array.getElem?_modify, List.getElem?_set]
          by_cases hn : j = n
          · subst hn
            have hjl : j < es.toList.length := (List.getElem?_eq_some_iff.1 g2).1
            rw [if_pos rfl, if_pos rfl, if_pos hjl, hj]; rfl
          · rw [if_neg hn, if_neg hn, Array.getElem?_toList]
        refine ⟨.skip, _, ?_, ρ, Ext.refl _ ρ, ⟨#[], rfl, trivial⟩, p4 ρ w w0 L es clock (es.modify j fun e => { e with key := a.eval q, val := a.eval v }) clock R l1 l3 ⟨⟨l.set i0 { e' with key := a.eval q, val := a.eval v }, ?_, g5.set eq ev i0⟩, stamped_modify l4.st j _ (fun e _ => rfl) (fun e he hje => by rw [hj] at hje; cases hje; exact g3.symm)⟩⟩
        · unfold execOp
          rw [h]
          simp only [l2, Instr.mapUpdate, Sem.run_bind, run_underlying i5, Result.andThen_ok, Go.MapKept.run_getObj_map l3, Go.MapKept.run_checkKey hkt f1, Go.MapKept.run_findKey hkt g1, run_setObj_map _ l3, hj, Option.map_some, Option.getD_some, g3, run_keyThatStays f1]
          rfl
        · rw [hmod]
          have hil : i0 < l.length := (List.getElem?_eq_some_iff.1 g6).1
          have hjl : j < es.toList.length := (List.getElem?_eq_some_iff.1 g2).1
          exact ((set_perm l i0 _ hil).trans ((erase_perm g4 g6 g2).cons _)).trans (set_perm es.toList j _ hjl).symm

theorem run_builtin (P : Program) (w : World) (a : Act) (o : Oper) (b : Builtin) (args : Array Operand) (tys : Array TypeId) (h : o.op = .call ⟨.builtin b, args, tys⟩) :
    (execOp a.eval o).run P w = (builtin b tys o.type (args.map fun | .const _ => true | _ => false) (args.map a.eval)).run P w := by
  unfold execOp
  rw [h]
  rfl

theorem mapDel_ok (P : Program) (o : Oper) (t t' : TypeId) (x q : Operand) (args : Array Operand) (tys : Array TypeId) (ha : args.toList = [x, q]) (ht' : tys.toList = [t, t'])
    (h : o.op = .call ⟨.builtin .delete, args, tys⟩) : RunOk P o (runK (compMapDel P t (compO x) (compO q))) := by
  have ea : ∀ a : Act, args.map a.eval = #[a.eval x, a.eval q] := fun a => by apply Array.ext'; simp [ha]
  have et : tys = #[t, t'] := by apply Array.ext'; simp [ht']
  cases ht : tyAt P t with
  | none => simp only [compMapDel, ht]; exact no_ok P o
  | some ty =>
    obtain ⟨s1, s2, d, s4⟩ := ty
    obtain ⟨i, i1, i2, i3, i4, i5⟩ := tyAt_ok ht
    cases d <;> simp only [compMapDel, ht] <;> try exact no_ok P o
    rename_i kt e
    cases hkk : keyKind (tyAt P kt) with
    | none => exact no_ok P o
    | some kd =>
    have hkt := keyKind_ok hkk
    have opx : ∀ {ρ : Emb} {fr : F} {a : Act}, ORel ρ fr a o.op.operands.toList → VRel ρ (oV (compO x) fr) (a.eval x) := fun A => A x (by rw [h]; simp [Op.operands, Call.operands, ← Array.mem_toList_iff, ha])
    have opq : ∀ {ρ : Emb} {fr : F} {a : Act}, ORel ρ fr a o.op.operands.toList → VRel ρ (oV (compO q) fr) (a.eval q) := fun A => A q (by rw [h]; simp [Op.operands, Call.operands, ← Array.mem_toList_iff, ha])
    intro cf _ fr hp k hk
    simp only [runK_mk, doMapDel, oE_eq] at hk
    have hs : still P o.op = false := by rw [h]; rfl
    cases hx : oV (compO x) fr <;> rw [hx] at hk <;> try exact Bool.noConfusion hk
    · obtain ⟨b, hb, _⟩ := optK_ok hk
      refine ⟨.tu [], hp, fun k' => by simp only [runK_mk, doMapDel, oE_eq, hx, vM, hb, optK_some], KeepF.refl _, Nat.le_refl _, fun ρ a w w0 A R => ?_, fun hh => by rw [hs] at hh; cases hh⟩
      have ex := opx A
      rw [hx] at ex
      have ex' : a.eval x = .map none := ex
      refine ⟨.value (.tuple #[]), w, ?_, ρ, Ext.refl _ ρ, ⟨#[], rfl, trivial⟩, R⟩
      rw [run_builtin P w a o .delete args tys h, ea, et, ex']
      unfold builtin Builtin.delete_
      simp only [List.getElem?_toArray, List.getElem?_cons_zero, List.getElem?_cons_succ, Sem.run_bind, run_underlying i5, Result.andThen_ok, Go.MapKept.run_checkKey hkt (keyEq_ok hb (opq A) (opq A)).1]
      rfl
    · rename_i id
      obtain ⟨next, floor, heap, cur, min, size, cells, n, frz, ps, rfl, hb, hm, hp', hK⟩ := mapK_ok hk
      simp only [vM] at hk
      rw [hK] at hk
      obtain ⟨r, hr, hk⟩ := optK_ok hk
      cases r with
      | none =>
        obtain ⟨hfl, hk⟩ := ifK_ok hk
        refine ⟨.tu [], ⟨next, floor, heap⟩, fun k' => by simp only [runK_mk, doMapDel, oE_eq, hx, vM, hK, hr, optK_some, hfl, ifK_true], KeepF.refl _, Nat.le_refl _, fun ρ a w w0 A R => ?_, fun hh => by rw [hs] at hh; cases hh⟩
        have ex := opx A
        rw [hx] at ex
        obtain ⟨L, es, clock, l1, l2, l3, l4⟩ := map_world R ex hb hm hp'
        obtain ⟨f1, f2, f3⟩ := find_world l4 (opq A) hr
        rcases f3 with ⟨_, g1, g2⟩ | ⟨i, _, _, _, _, g, _⟩
        · have hsame : w.heap.setIfInBounds L.b (.map es clock) = w.heap := by
            apply Array.ext_getElem?
            intro i
            by_cases e : i = L.b
            · subst e; rw [(heap_set l3).1, l3]
            · exact (heap_set l3).2 i e
          refine ⟨.value (.tuple #[]), w, ?_, ρ, Ext.refl _ ρ, ⟨#[], rfl, trivial⟩, R⟩
          rw [run_builtin P w a o .delete args tys h, ea, et, l2]
          unfold builtin Builtin.delete_
          simp only [List.getElem?_toArray, List.getElem?_cons_zero, List.getElem?_cons_succ, Sem.run_bind, run_underlying i5, Result.andThen_ok, Go.MapKept.run_getObj_map l3, Go.MapKept.run_checkKey hkt f1, Go.MapKept.run_findKey hkt g1, run_setObj_map _ l3, hsame]
          rfl
        · cases g
      | some i0 =>
        obtain ⟨h', p1, p2, p3, p4⟩ := putM_ok hb hm hp' hk
        refine ⟨.tu [], h', fun k' => by simp only [runK_mk, doMapDel, oE_eq, hx, vM, hK, hr, optK_some, p1], p2, by rw [p3]; exact Nat.le_refl _, fun ρ a w w0 A R => ?_, fun hh => by rw [hs] at hh; cases hh⟩
        have ex := opx A
        rw [hx] at ex
        obtain ⟨L, es, clock, l1, l2, l3, l4⟩ := map_world R ex hb hm hp'
        obtain ⟨f1, f2, f3⟩ := find_world l4 (opq A) hr
        rcases f3 with ⟨g, _⟩ | ⟨i', j, e', l, kv, g, g1, g2, g3, g4, g5, g6, g7, g8, g9⟩
        · cases g
        · cases g
          have hjl : j < es.size := by have := (List.getElem?_eq_some_iff.1 g2).1; simpa using this
          refine ⟨.value (.tuple #[]), _, ?_, ρ, Ext.refl _ ρ, ⟨#[], rfl, trivial⟩, p4 ρ w w0 L es clock (es.eraseIdxIfInBounds j) clock R l1 l3 ⟨⟨l.eraseIdx i0, ?_, g5.erase i0⟩, stamped_erase l4.st j⟩⟩
          · rw [run_builtin P w a o .delete args tys h, ea, et, l2]
            unfold builtin Builtin.delete_
            simp only [List.getElem?_toArray, List.getElem?_cons_zero, List.getElem?_cons_succ, Sem.run_bind, run_underlying i5, Result.andThen_ok, Go.MapKept.run_getObj_map l3, Go.MapKept.run_checkKey hkt f1, Go.MapKept.run_findKey hkt g1, run_setObj_map _ l3]
            rfl
          · unfold Array.eraseIdxIfInBounds
            rw [dif_pos hjl, Array.toList_eraseIdx]
            exact erase_perm g4 g6 g2
theorem mapLen_ok (P : Program) (o : Oper) (t kt e : TypeId) (x : Operand) (args : Array Operand) (tys : Array TypeId) (ha : args.toList = [x]) (ht' : tys.toList = [t]) (hm' : isMapT P (some t) = true) (hu : P.underlying t = some (.map kt e))
    (h : o.op = .call ⟨.builtin .len, args, tys⟩) : RunOk P o (doMapLen (compO x)) := by
  have ea : ∀ a : Act, args.map a.eval = #[a.eval x] := fun a => by apply Array.ext'; simp [ha]
  have et : tys = #[t] := by apply Array.ext'; simp [ht']
  have hs : still P o.op = false := by
    rw [h]
    show (!isMapT P tys.toList.head?) = false
    rw [ht']
    show (!isMapT P (some t)) = false
    rw [hm']; rfl
  refine RunOk.pure hs fun cf fr hp k hk => ?_
  simp only [doMapLen, oE_eq] at hk
  cases hx : oV (compO x) fr <;> rw [hx] at hk <;> try exact Bool.noConfusion hk
  · refine ⟨.i .i64 (.ofNat 0), fun k' => by simp only [doMapLen, oE_eq, hx, vM], fun ρ a A w w0 R => ?_⟩
    have ex := A x (by rw [h]; simp [Op.operands, Call.operands, ← Array.mem_toList_iff, ha])
    rw [hx] at ex
    have ex' : a.eval x = .map none := ex
    refine ⟨.int .i64 0, ?_, rfl⟩
    rw [run_builtin P w a o .len args tys h, ea, et, ex']
    unfold builtin Builtin.len_
    simp only [List.getElem?_toArray, List.getElem?_cons_zero, Sem.run_bind, run_underlying hu, Result.andThen_ok]
    rfl
  · rename_i id
    obtain ⟨next, floor, heap, cur, min, size, cells, n, frz, ps, rfl, hb, hm, hp', hK⟩ := mapK_ok hk
    refine ⟨.i .i64 (.ofNat ps.length), fun k' => by simp only [doMapLen, oE_eq, hx, vM, hK], fun ρ a A w w0 R => ?_⟩
    have ex := A x (by rw [h]; simp [Op.operands, Call.operands, ← Array.mem_toList_iff, ha])
    rw [hx] at ex
    obtain ⟨L, es, clock, l1, l2, l3, l4⟩ := map_world R ex hb hm hp'
    obtain ⟨l, m1, m2⟩ := l4.rel
    have hsz : es.size = ps.length := by
      have := m1.length_eq
      rw [m2.length, this]; simp
    refine ⟨.int .i64 (es.size : Int), ?_, by rw [hsz]; rfl⟩
    rw [run_builtin P w a o .len args tys h, ea, et, l2]
    unfold builtin Builtin.len_
    simp only [List.getElem?_toArray, List.getElem?_cons_zero, Sem.run_bind, run_underlying hu, Result.andThen_ok, Go.MapKept.run_getObj_map l3]
    rfl

theorem newM_ok {h : H} {k : V → H → Bool} (hk : doMakeMap.newM h k = true) :
    ∃ h', (∀ k', doMakeMap.newM h k' = k' (.m h.next) h') ∧ KeepF h h' ∧ B.val h.next ≤ B.val h'.next ∧
      ∀ ρ w w0, HRel ρ h w w0 → Done h.floor ρ w0 (.m h.next) h' (.map (some w.heap.size)) (w.alloc (.map #[] 0)) := by
  obtain ⟨next, floor, heap⟩ := h
  obtain ⟨hp, h4, h5, h6⟩ := setK_ok next (⟨0, 7, 0, .o, 0, 0⟩ : Blk) heap
  obtain ⟨nx, h7, h8⟩ := incK_ok next
  refine ⟨⟨nx, floor, hp⟩, fun k' => by unfold doMakeMap.newM; simp only [hK_mk]; rw [h4, h7], ⟨rfl, fun hf id hid => h6 id (fun e => by rw [e] at hid; exact absurd hf (Nat.not_le.2 hid))⟩, by show B.val next ≤ B.val nx; omega, fun ρ w w0 R => ?_⟩
  have hnone : ρ next 0 = none := by
    cases hr : ρ next 0 with
    | none => rfl
    | some L => have := R.ids _ _ _ hr; exact absurd this (Nat.lt_irrefl _)
  have hne : ∀ id g L, ρ id g = some L → ¬ (id = next) := fun id g L hr he => by
    have := R.ids _ _ _ hr; rw [he] at this; exact absurd this (Nat.lt_irrefl _)
  have hle := Emb.put_le (⟨w.heap.size, 0, 0, 0, none⟩ : Loc) hnone
  refine ⟨ρ.put next 0 ⟨w.heap.size, 0, 0, 0, none⟩, Ext.put hnone R.flo, ⟨_, Emb.put_same _ _ _ _, rfl⟩, ?_⟩
  have hcase : ∀ {id g L}, ρ.put next 0 ⟨w.heap.size, 0, 0, 0, none⟩ id g = some L → (id = next ∧ g = 0 ∧ L = ⟨w.heap.size, 0, 0, 0, none⟩) ∨ ρ id g = some L := by
    intro id g L hL
    by_cases e : id = next ∧ g = 0
    · left; obtain ⟨rfl, rfl⟩ := e; rw [Emb.put_same] at hL; exact ⟨rfl, rfl, (Option.some.inj hL).symm⟩
    · right; rwa [Emb.put_other _ _ _ _ e] at hL
  refine ⟨fun id g L hL => ?_, fun id g L hL => ?_, fun id g L id' g' L' hL hL' hb => ?_, ?_, fun b hb => ?_, fun id g L hL hf => ?_, R.tp, R.os, R.out, by rw [alloc_size]; exact Nat.le_succ_of_le R.siz, fun id L blk hL hblk hm => ?_, R.ito.of fun id g L blk hL hblk hg hm => ?_⟩
  · rcases hcase hL with ⟨rfl, rfl, rfl⟩ | hL
    · exact ⟨_, h5, Nat.le_refl _, by rw [alloc_size]; exact Nat.lt_succ_self _, Nat.le_refl _, Nat.le_refl _, fun _ => rfl, fun hm => by have hm : 7 ≤ 0 := hm; omega⟩
    · obtain ⟨blk, a1, a2, a3, a4, a5, a6, a7⟩ := R.loc _ _ _ hL
      refine ⟨blk, (h6 id (hne _ _ _ hL)).trans a1, a2, by rw [alloc_size]; omega, a4, a5, a6, fun hm => ?_⟩
      obtain ⟨c', el', b1, b2, b3, b4⟩ := a7 hm
      refine ⟨c', el', b1.congr (alloc_get_old _ _ a3), b2, b3, fun i i1 i2 => ?_⟩
      obtain ⟨v, x, d1, d2, d3⟩ := b4 i i1 i2
      exact ⟨v, x, d1, d2, VRel.up hle _ _ d3⟩
  · show B.val id < B.val nx
    rcases hcase hL with ⟨rfl, rfl, rfl⟩ | hL
    · rw [h8]; exact Nat.lt_succ_self _
    · have : B.val id < B.val next := R.ids _ _ _ hL
      rw [h8]; omega
  · rcases hcase hL with ⟨i1, i2, i3⟩ | hM <;> rcases hcase hL' with ⟨j1, j2, j3⟩ | hM'
    · exact ⟨i1.trans j1.symm, by rw [i3, j3]⟩
    · obtain ⟨_, _, _, a3, _⟩ := R.loc _ _ _ hM'
      rw [← hb, i3] at a3; exact absurd a3 (Nat.lt_irrefl _)
    · obtain ⟨_, _, _, a3, _⟩ := R.loc _ _ _ hM
      rw [hb, j3] at a3; exact absurd a3 (Nat.lt_irrefl _)
    · exact R.sep _ _ _ _ _ _ hM hM' hb
  · show B.val floor ≤ B.val nx
    have : B.val floor ≤ B.val next := R.flo
    rw [h8]; omega
  · rw [alloc_get_old _ _ (Nat.lt_of_lt_of_le hb R.siz)]
    exact R.old b hb
  · rcases hcase hL with ⟨rfl, rfl, rfl⟩ | hL
    · exact R.siz
    · exact R.up _ _ _ hL hf
  · rcases hcase hL with ⟨rfl, _, rfl⟩ | hL
    · have hb2 : hp.get id = some blk := hblk
      rw [h5] at hb2
      have hb3 := Option.some.inj hb2
      subst hb3
      exact ⟨#[], 0, alloc_get_new _ _, [], ⟨rfl, fun i kv hi => by simp at hi⟩, ⟨⟨[], .nil, .nil⟩, stamped_empty 0⟩⟩
    · obtain ⟨_, _, _, a3, _⟩ := R.loc _ _ _ hL
      obtain ⟨es, clock, q1, q2⟩ := R.mp id L blk hL ((h6 id (hne _ _ _ hL)).symm.trans hblk) hm
      exact ⟨es, clock, (alloc_get_old _ _ a3).trans q1, q2.up hle⟩
  · rcases hcase hL with ⟨rfl, _, rfl⟩ | hL
    · have hb2 : hp.get id = some blk := hblk
      rw [h5] at hb2
      have hb3 := Option.some.inj hb2
      subst hb3
      have hm : 7 = 0 + 9 := hm
      exact absurd hm (by decide)
    · obtain ⟨_, _, _, a3, _⟩ := R.loc _ _ _ hL
      exact ⟨hL, (h6 id (hne _ _ _ hL)).symm.trans hblk, alloc_get_old _ _ a3⟩
theorem makeMap_ok (P : Program) (o : Oper) (t : TypeId) (r : Option Operand) (h : o.op = .makeMap t r) : RunOk P o (runK (compMakeMap P t (r.map compO))) := by
  cases ht : tyAt P t with
  | none => simp only [compMakeMap, ht]; exact no_ok P o
  | some ty =>
    obtain ⟨s1, s2, d, s4⟩ := ty
    obtain ⟨i, i1, i2, i3, i4, i5⟩ := tyAt_ok ht
    cases d <;> simp only [compMakeMap, ht] <;> try exact no_ok P o
    intro cf _ fr hp k hk
    cases r with
    | none =>
      have hk' : doMakeMap.newM hp k = true := hk
      obtain ⟨h', p1, p2, p3, p4⟩ := newM_ok hk'
      refine ⟨_, h', fun k' => p1 k', p2, p3, fun ρ a w w0 A R => ?_, fun hs => by rw [h] at hs; exact Bool.noConfusion hs⟩
      exact ⟨.value (.map (some w.heap.size)), w.alloc (.map #[] 0), by unfold execOp; rw [h]; rfl, p4 ρ w w0 R⟩
    | some r =>
      simp only [runK_mk, doMakeMap, Option.map_some, oE_eq] at hk
      obtain ⟨kd, n, hv, hk⟩ := vI_ok hk
      obtain ⟨h', p1, p2, p3, p4⟩ := newM_ok hk
      refine ⟨.m hp.next, h', fun k' => by simp only [runK_mk, doMakeMap, Option.map_some, oE_eq, hv, vI_i, p1], p2, p3, fun ρ a w w0 A R => ?_, fun hs => by rw [h] at hs; exact Bool.noConfusion hs⟩
      have er := A r (by rw [h]; simp [Op.operands])
      rw [hv] at er
      have er' : a.eval r = .int kd n := er
      refine ⟨.value (.map (some w.heap.size)), w.alloc (.map #[] 0), ?_, p4 ρ w w0 R⟩
      unfold execOp
      rw [h]
      simp only [Option.map_some, er', Instr.makeMap, Sem.run_bind, run_underlying i5, Result.andThen_ok]
      rfl
end Go.Ev
