/-
  Operations at states that are terms: what each makes, by the operands' values; memory as cells; rows of cells.
-/
import Derived.Test.YtiecpllnbekmoaaEvM
set_option linter.all false
namespace Go.Ev
open Go

/-! ### Operations, one behind the other -/
structure Ops (P : Program) (S : Spec) (l : List CO) (t : F) (h : H) (K : F → H → Prop) : Prop where
  run : ∃ t' h', (∀ k, execOps (cfS P S) l t h k = k t' h') ∧ K t' h'
structure Drs (P : Program) (S : Spec) (l : List CO) (t : F) (h : H) (K : F → H → Prop) : Prop where
  run : ∃ t' h', (∀ k, execDr (cfS P S) l t h k = k t' h') ∧ K t' h'

section
variable {P : Program} {S : Spec} {nt : Nat} {l : List CO} {t : F} {h : H} {K : F → H → Prop}
theorem Ok.ops {K : X → F → H → Prop} (k : Ops P S l t h (K .normal)) : Ok P nt (.region l) t h K := by
  obtain ⟨t', h', a1, a2⟩ := k
  exact Ok.region a1 a2
theorem Ok.drs {K : X → F → H → Prop} (hm : P.follows .mixedOrders = true) (k : Drs P S l t h (K .normal)) : Ok P nt (.draws l) t h K := by
  obtain ⟨t', h', a1, a2⟩ := k
  exact Ok.draws hm a1 a2
theorem Ops.nil (k : K t h) : Ops P S [] t h K := ⟨t, h, fun _ => rfl, k⟩
theorem Drs.nil (k : K t h) : Drs P S [] t h K := ⟨t, h, fun _ => rfl, k⟩

theorem Ops.op {n : Nat} {b : Bool} {r : Run} {v : V} {h1 : H} (e : ∀ k, r (cfS P S) t h k = k v h1) (k : Ops P S l (put n v t) h1 K) : Ops P S (.mk .none (.some (slOf n)) b (.mk r) :: l) t h K := by
  obtain ⟨t', h', a1, a2⟩ := k
  refine ⟨t', h', fun k => ?_, a2⟩
  show r (cfS P S) t h (fun v h => sPut (slOf n) v t fun t => execOps (cfS P S) l t h k) = _
  rw [e, sPut_put, a1]
theorem Ops.op0 {b : Bool} {r : Run} {v : V} {h1 : H} (e : ∀ k, r (cfS P S) t h k = k v h1) (k : Ops P S l t h1 K) : Ops P S (.mk .none .none b (.mk r) :: l) t h K := by
  obtain ⟨t', h', a1, a2⟩ := k
  refine ⟨t', h', fun k => ?_, a2⟩
  show r (cfS P S) t h (fun v h => execOps (cfS P S) l t h k) = _
  rw [e, a1]
theorem Ops.guard {g n : Nat} {w q : Bool} {b : Bool} {r : CR} (e : get g t = .b q) (k1 : q = w → Ops P S (.mk .none (.some (slOf n)) b r :: l) t h K) (k2 : q = (!w) → Ops P S l (put n (.tu []) t) h K) :
    Ops P S (.mk (.some (slOf g) w) (.some (slOf n)) b r :: l) t h K := by
  have e0 : ∀ k, execOps (cfS P S) (.mk (.some (slOf g) w) (.some (slOf n)) b r :: l) t h k = vG (get g t) w fun x => opGo x r (.some (slOf n)) (cfS P S) (execOps (cfS P S) l) t h k := fun _ => rfl
  have e1 : ∀ f, vG (.b q) w f = f (xor (xor q w) true) := fun _ => rfl
  by_cases hq : q = w
  · obtain ⟨t', h', a1, a2⟩ := k1 hq
    refine ⟨t', h', fun k => ?_, a2⟩
    rw [e0, e, e1, hq]
    have : xor (xor w w) true = true := by cases w <;> rfl
    rw [this]
    exact a1 k
  · have hq' : q = !w := by cases q <;> cases w <;> simp_all
    obtain ⟨t', h', a1, a2⟩ := k2 hq'
    refine ⟨t', h', fun k => ?_, a2⟩
    rw [e0, e, e1, hq']
    have : xor (xor (!w) w) true = false := by cases w <;> rfl
    rw [this]
    show sPut (slOf n) (.tu []) t (fun t => execOps (cfS P S) l t h k) = _
    rw [sPut_put, a1]
theorem Ops.guard0 {g : Nat} {w q : Bool} {b : Bool} {r : CR} (e : get g t = .b q) (k1 : q = w → Ops P S (.mk .none .none b r :: l) t h K) (k2 : q = (!w) → Ops P S l t h K) :
    Ops P S (.mk (.some (slOf g) w) .none b r :: l) t h K := by
  have e0 : ∀ k, execOps (cfS P S) (.mk (.some (slOf g) w) .none b r :: l) t h k = vG (get g t) w fun x => opGo x r .none (cfS P S) (execOps (cfS P S) l) t h k := fun _ => rfl
  have e1 : ∀ f, vG (.b q) w f = f (xor (xor q w) true) := fun _ => rfl
  by_cases hq : q = w
  · obtain ⟨t', h', a1, a2⟩ := k1 hq
    refine ⟨t', h', fun k => ?_, a2⟩
    rw [e0, e, e1, hq]
    have : xor (xor w w) true = true := by cases w <;> rfl
    rw [this]
    exact a1 k
  · have hq' : q = !w := by cases q <;> cases w <;> simp_all
    obtain ⟨t', h', a1, a2⟩ := k2 hq'
    refine ⟨t', h', fun k => ?_, a2⟩
    rw [e0, e, e1, hq']
    have : xor (xor (!w) w) true = false := by cases w <;> rfl
    rw [this]
    exact a1 k

theorem Ops.g1 {g n : Nat} {w : Bool} {b : Bool} {r : CR} (e : get g t = .b w) (k : Ops P S (.mk .none (.some (slOf n)) b r :: l) t h K) : Ops P S (.mk (.some (slOf g) w) (.some (slOf n)) b r :: l) t h K :=
  Ops.guard e (fun _ => k) fun h => by cases w <;> cases h
theorem Ops.g0t {g n : Nat} {b : Bool} {r : CR} (e : get g t = .b false) (k : Ops P S l (put n (.tu []) t) h K) : Ops P S (.mk (.some (slOf g) true) (.some (slOf n)) b r :: l) t h K :=
  Ops.guard e (fun h => by cases h) fun _ => k
theorem Ops.g0f {g n : Nat} {b : Bool} {r : CR} (e : get g t = .b true) (k : Ops P S l (put n (.tu []) t) h K) : Ops P S (.mk (.some (slOf g) false) (.some (slOf n)) b r :: l) t h K :=
  Ops.guard e (fun h => by cases h) fun _ => k
theorem Ok.condT {K : X → F → H → Prop} {o : O} {a b : CC} (e : oV o t = .b true) (k : Ok P nt a t h K) : Ok P nt (.cond o a b) t h K := Ok.cond e (fun _ => k) fun h => by cases h
theorem Ok.condF {K : X → F → H → Prop} {o : O} {a b : CC} (e : oV o t = .b false) (k : Ok P nt b t h K) : Ok P nt (.cond o a b) t h K := Ok.cond e (fun h => by cases h) fun _ => k
theorem evalsK_eq (t : F) (k : List V → Bool) : ∀ os : List O, evalsK os t k = k (os.map fun o => oV o t) := by
  intro os
  induction os generalizing k with
  | nil => rfl
  | cons o os ih =>
    have e : evalsK (o :: os) t k = oK o t fun v => evalsK os t fun vs => k (v :: vs) := rfl
    rw [e, oK_eq, ih]; rfl
/-- a call: by the function's specification -/
theorem Ops.call {n : Nat} {b : Bool} {f : FuncId} {args : List O} {vs : List V} (e : args.map (fun o => oV o t) = vs) (hf : FnOk P f vs h (S f vs h)) (k : ∀ v h1, S f vs h v h1 → Ops P S l (put n v t) h1 K) :
    Ops P S (.mk .none (.some (slOf n)) b (.mk (doCall f args)) :: l) t h K := by
  obtain ⟨v, h1, c1, c2⟩ := cfS_call hf
  refine Ops.op (v := v) (h1 := h1) (fun k => ?_) (k v h1 c2)
  show evalsK args t (fun vs => cfS P S f vs h k) = _
  rw [evalsK_eq, e, c1]

/-! draws -/
theorem Drs.bar {n : Nat} {r : Run} {v : V} {h1 : H} (e : ∀ k, r (cfS P S) t h k = k v h1) (k : Drs P S l (put n v t) h1 K) : Drs P S (.mk .none (.some (slOf n)) true (.mk r) :: l) t h K := by
  obtain ⟨t', h', a1, a2⟩ := k
  refine ⟨t', h', fun k => ?_, a2⟩
  show r (cfS P S) t h (fun v h => sPut (slOf n) v t fun t => execDr (cfS P S) l t h k) = _
  rw [e, sPut_put, a1]
theorem Drs.op {n : Nat} {r : Run} {v : V} {h1 : H} (e : ∀ k, r (cfS P S) t (reFloor h) k = k v h1) (k : Drs P S l (put n v t) (unFloor h h1) K) : Drs P S (.mk .none (.some (slOf n)) false (.mk r) :: l) t h K := by
  obtain ⟨t', h', a1, a2⟩ := k
  refine ⟨t', h', fun k => ?_, a2⟩
  show r (cfS P S) t (reFloor h) (fun v h2 => sPut (slOf n) v t fun t => execDr (cfS P S) l t (unFloor h h2) k) = _
  rw [e, sPut_put, a1]
theorem Drs.guard {g n : Nat} {w q : Bool} {b : Bool} {r : CR} (e : get g t = .b q) (k1 : q = w → Drs P S (.mk .none (.some (slOf n)) b r :: l) t h K) (k2 : q = (!w) → Drs P S l (put n (.tu []) t) h K) :
    Drs P S (.mk (.some (slOf g) w) (.some (slOf n)) b r :: l) t h K := by
  have e0 : ∀ k, execDr (cfS P S) (.mk (.some (slOf g) w) (.some (slOf n)) b r :: l) t h k = vG (get g t) w fun x => drGo x b r (.some (slOf n)) (cfS P S) (execDr (cfS P S) l) t h k := fun _ => rfl
  have e1 : ∀ f, vG (.b q) w f = f (xor (xor q w) true) := fun _ => rfl
  by_cases hq : q = w
  · obtain ⟨t', h', a1, a2⟩ := k1 hq
    refine ⟨t', h', fun k => ?_, a2⟩
    rw [e0, e, e1, hq]
    have : xor (xor w w) true = true := by cases w <;> rfl
    rw [this]
    exact a1 k
  · have hq' : q = !w := by cases q <;> cases w <;> simp_all
    obtain ⟨t', h', a1, a2⟩ := k2 hq'
    refine ⟨t', h', fun k => ?_, a2⟩
    rw [e0, e, e1, hq']
    have : xor (xor (!w) w) true = false := by cases w <;> rfl
    rw [this]
    show sPut (slOf n) (.tu []) t (fun t => execDr (cfS P S) l t h k) = _
    rw [sPut_put, a1]
theorem Drs.g1 {g n : Nat} {w : Bool} {b : Bool} {r : CR} (e : get g t = .b w) (k : Drs P S (.mk .none (.some (slOf n)) b r :: l) t h K) : Drs P S (.mk (.some (slOf g) w) (.some (slOf n)) b r :: l) t h K :=
  Drs.guard e (fun _ => k) fun h => by cases w <;> cases h
theorem Drs.g0t {g n : Nat} {b : Bool} {r : CR} (e : get g t = .b false) (k : Drs P S l (put n (.tu []) t) h K) : Drs P S (.mk (.some (slOf g) true) (.some (slOf n)) b r :: l) t h K :=
  Drs.guard e (fun h => by cases h) fun _ => k
theorem Drs.g0f {g n : Nat} {b : Bool} {r : CR} (e : get g t = .b true) (k : Drs P S l (put n (.tu []) t) h K) : Drs P S (.mk (.some (slOf g) false) (.some (slOf n)) b r :: l) t h K :=
  Drs.guard e (fun h => by cases h) fun _ => k
theorem Drs.callBar {n : Nat} {f : FuncId} {args : List O} {vs : List V} (e : args.map (fun o => oV o t) = vs) (hf : FnOk P f vs h (S f vs h)) (k : ∀ v h1, S f vs h v h1 → Drs P S l (put n v t) h1 K) :
    Drs P S (.mk .none (.some (slOf n)) true (.mk (doCall f args)) :: l) t h K := by
  obtain ⟨v, h1, c1, c2⟩ := cfS_call hf
  refine Drs.bar (v := v) (h1 := h1) (fun k => ?_) (k v h1 c2)
  show evalsK args t (fun vs => cfS P S f vs h k) = _
  rw [evalsK_eq, e, c1]
theorem Drs.call {n : Nat} {f : FuncId} {args : List O} {vs : List V} (e : args.map (fun o => oV o t) = vs) (hf : FnOk P f vs (reFloor h) (S f vs (reFloor h))) (k : ∀ v h1, S f vs (reFloor h) v h1 → Drs P S l (put n v t) (unFloor h h1) K) :
    Drs P S (.mk .none (.some (slOf n)) false (.mk (doCall f args)) :: l) t h K := by
  obtain ⟨v, h1, c1, c2⟩ := cfS_call hf
  refine Drs.op (v := v) (h1 := h1) (fun k => ?_) (k v h1 c2)
  show evalsK args t (fun vs => cfS P S f vs (reFloor h) k) = _
  rw [evalsK_eq, e, c1]
end

/-! behind a part of the code -/
section
variable {K' : F → H → Prop} {K : X → F → H → Prop} {t : F} {h : H} {id j : Nat}
theorem Then_n : Then K' K .normal t h = K' t h := rfl
theorem Then_e : Then K' K (.exit j) t h = K (.exit j) t h := rfl
theorem Then_r : Then K' K .ret t h = K .ret t h := rfl
theorem Out_n : Out id K .normal t h = K .normal t h := rfl
theorem Out_e : Out id K (.exit j) t h = if j = id then K .normal t h else K (.exit j) t h := rfl
theorem Out_r : Out id K .ret t h = K .ret t h := rfl
end

/-! ### What the operations make -/
section
variable (cf : CallF) (t : F) (h : H) (k : V → H → Bool) (o x y c : O)
theorem ev_move : doMove o cf t h k = k (oV o t) h := by simp only [doMove, oK_eq]
theorem ev_pick : doPick c x y cf t h k = vB (oV c t) fun q => k (cond q (oV x t) (oV y t)) h := by
  simp only [doPick, oE_eq, oK_eq]
  congr 1; funext q; cases q <;> rfl
theorem ev_bin (f : BinF) : bin2 f x y cf t h k = vI (oV x t) fun kd a => vI (oV y t) fun kd' b => ifK (kdEq kd kd') fun _ => f kd a b fun v => k v h := by simp only [bin2, oE_eq]
theorem ev_not : doNot x cf t h k = vB (oV x t) fun a => k (.b (!a)) h := by simp only [doNot, oE_eq, fB_eq]
theorem ev_bool (ne : Bool) : doBool ne x y cf t h k = vB (oV x t) fun a => vB (oV y t) fun b => k (.b (xor ne (xor (xor a b) true))) h := by simp only [doBool, oE_eq, fB_eq]
theorem ev_conv (kd : IntKind) (kd' : IntKind) (n : Int) (e : oV x t = .i kd' n) : doConv kd x cf t h k = k (.i kd (kd.wrap n)) h := by simp only [doConv, oE_eq, e, vIR_i, wrapF_eq]
theorem ev_extract (j : Nat) : doExtract j x cf t h k = vT (oV x t) fun vs => optK (vs[j]?) fun v => k v h := by simp only [doExtract, oE_eq, forceV_eq]
theorem ev_lenS : doLenS x cf t h k = vS (oV x t) fun n _ => k (.i .i64 (.ofNat n)) h := by simp only [doLenS, oE_eq]
theorem ev_load : doLoad o cf t h k = vP (oV o t) fun id g off fin => load1 h id g off fin fun v => k v h := by simp only [doLoad, oE_eq]
theorem ev_loadA (size : Nat) : doLoadA size o cf t h k = vP (oV o t) fun id g off fin => loadN h id g off fin size fun vs => k (.a vs) h := by simp only [doLoadA, oE_eq]
theorem ev_fieldAddr (d : Nat) : doFieldAddr d o cf t h k = vP (oV o t) fun id g off fin => k (.p id g (off + d) fin) h := by simp only [doFieldAddr, oE_eq, fN_eq]; rfl
theorem ev_field (d : Nat) : doField d o cf t h k = vA (oV o t) fun cs => optK (cs[d]?) fun v => k v h := by simp only [doField, oE_eq, forceV_eq]
theorem ev_build (z : List V) (ps : List Pt) : doBuild z ps cf t h k = fillL ps t z fun cs => k (.a cs) h := rfl
theorem ev_fieldA (d size : Nat) : doFieldA d size o cf t h k = vA (oV o t) fun cs => k (.a ((cs.drop d).take size)) h := by simp only [doFieldA, oE_eq]
theorem ev_nilCheck : doNilCheck o cf t h k = vP (oV o t) fun id g off fin => k (.p id g off fin) h := by simp only [doNilCheck, oE_eq]
theorem ev_min : doMin x y cf t h k = vI (oV x t) fun kd a => vI (oV y t) fun kd' b => ifK (kdEq kd kd') fun _ => k (.i kd (min a b)) h := by
  simp only [doMin, oE_eq, ltI_eq]
  congr 1; funext kd a; congr 1; funext kd' b
  congr 1; funext _
  by_cases hba : b < a
  · simp [hba, boolK]; rw [Int.min_eq_right (by omega)]
  · simp [hba, boolK]; rw [Int.min_eq_left (by omega)]
theorem ev_max : doMax x y cf t h k = vI (oV x t) fun kd a => vI (oV y t) fun kd' b => ifK (kdEq kd kd') fun _ => k (.i kd (max a b)) h := by
  simp only [doMax, oE_eq, ltI_eq]
  congr 1; funext kd a; congr 1; funext kd' b
  congr 1; funext _
  by_cases hba : a < b
  · simp [hba, boolK]; rw [Int.max_eq_right (by omega)]
  · simp [hba, boolK]; rw [Int.max_eq_left (by omega)]
end
section
variable (kd : IntKind) (a b : Int) (k : V → Bool)
theorem f_add : fAdd kd a b k = k (.i kd (kd.wrap (a + b))) := wrapF_eq _ _ _
theorem f_sub : fSub kd a b k = k (.i kd (kd.wrap (a - b))) := wrapF_eq _ _ _
theorem f_mul : fMul kd a b k = k (.i kd (kd.wrap (a * b))) := wrapF_eq _ _ _
theorem f_lss : fLss kd a b k = k (.b (decide (a < b))) := by simp only [fLss, fB_eq, ltI_eq]
theorem f_gtr : fGtr kd a b k = k (.b (decide (b < a))) := by simp only [fGtr, fB_eq, ltI_eq]
theorem f_leq : fLeq kd a b k = k (.b (decide (a ≤ b))) := by
  simp only [fLeq, fB_eq, ltI_eq]; congr 2
  by_cases h : b < a
  · simp [h]
  · simp [h]; omega
theorem f_geq : fGeq kd a b k = k (.b (decide (b ≤ a))) := by
  simp only [fGeq, fB_eq, ltI_eq]; congr 2
  by_cases h : a < b
  · simp [h]
  · simp [h]; omega
theorem f_eql : fEql kd a b k = k (.b (decide (a = b))) := by simp only [fEql, fB_eq, eqI_eq]; congr 2
theorem f_neq : fNeq kd a b k = k (.b (!decide (a = b))) := by simp only [fNeq, fB_eq, eqI_eq]; congr 2
end
theorem kdEq_self (kd : IntKind) : kdEq kd kd = true := by cases kd <;> rfl
theorem wrap_i64 {n : Int} (h1 : -9223372036854775808 ≤ n) (h2 : n ≤ 9223372036854775807) : IntKind.i64.wrap n = n := by
  cases n with
  | ofNat m => exact wrap_small .i64 m (by show m ≤ 9223372036854775807; simp at h2; omega)
  | negSucc m =>
    simp only [IntKind.wrap, IntKind.bits, IntKind.signed]
    have e : Int.negSucc m % (2 ^ 64 : Int) = 2 ^ 64 - (m + 1) := by omega
    simp [e]
    omega

/-! ### Memory as cells -/
noncomputable def cellB (blk : Option Blk) (g off : Nat) : Option V := match blk with
  | some b => if b.min ≤ g then b.cells.getN off else none
  | none => none
noncomputable def cell (h : H) (id : B) (g off : Nat) : Option V := cellB (h.heap.get id) g off
theorem load1_cell {h : H} {id : B} {g off fin : Nat} {v : V} (hc : cell h id g off = some v) (hf : off < fin) (k : V → Bool) : load1 h id g off fin k = k v := by
  obtain ⟨next, floor, heap⟩ := h
  unfold cell cellB at hc
  simp only at hc
  split at hc
  · rename_i blk hb
    obtain ⟨cur, min, size, cells, el, fr⟩ := blk
    simp only at hc
    split at hc
    · rename_i hm
      have h1 : Nat.ble min g = true := by rw [Nat.ble_eq]; exact hm
      have h2 : Nat.ble (Nat.succ off) fin = true := by rw [Nat.ble_eq]; exact hf
      simp only [load1, hK_mk, hb, optK_some, blkK_mk, h1, h2, ifK_true, hc, forceV_eq]
    · cases hc
  · cases hc
theorem getList_cells (cells : T V) : ∀ (n off : Nat) (vs : List V) (k : List V → Bool), vs.length = n → (∀ i v, vs[i]? = some v → cells.getN (off + i) = some v) → getList n cells off k = k vs
  | 0, off, vs, k, hl, _ => by
    have : vs = [] := List.eq_nil_of_length_eq_zero hl
    subst this; rfl
  | n + 1, off, vs, k, hl, hv => by
    cases vs with
    | nil => simp at hl
    | cons v vs =>
      have e : getList (n + 1) cells off k = optK (cells.getN off) fun v => getList n cells (off + 1) fun vs => k (v :: vs) := rfl
      have h0 := hv 0 v rfl
      rw [Nat.add_zero] at h0
      rw [e, h0, optK_some, getList_cells cells n (off + 1) vs _ (by simpa using hl) fun i u hu => by have := hv (i + 1) u (by simpa using hu); rwa [show off + (i + 1) = off + 1 + i by omega] at this]
/-- some cells, one behind the other -/
def Row (h : H) (id : B) (g off : Nat) (vs : List V) : Prop := (vs ≠ [] → ∃ b, h.heap.get id = some b ∧ b.min ≤ g) ∧ ∀ i v, vs[i]? = some v → cell h id g (off + i) = some v
theorem loadN_row {h : H} {id : B} {g off fin n : Nat} {vs : List V} (hr : Row h id g off vs) (hn : vs.length = n) (hne : vs ≠ []) (hf : off + n ≤ fin) (k : List V → Bool) : loadN h id g off fin n k = k vs := by
  obtain ⟨next, floor, heap⟩ := h
  obtain ⟨hr1, hc⟩ := hr
  obtain ⟨b, hb, hm⟩ := hr1 hne
  obtain ⟨cur, min, size, cells, el, fr⟩ := b
  have h1 : Nat.ble min g = true := by rw [Nat.ble_eq]; exact hm
  have h2 : Nat.ble (Nat.add off n) fin = true := by rw [Nat.ble_eq]; exact hf
  simp only [loadN, hK_mk]
  have hb' : heap.get id = some ⟨cur, min, size, cells, el, fr⟩ := hb
  simp only [hb', optK_some, blkK_mk, h1, h2, ifK_true]
  refine getList_cells cells n off vs k hn fun i v hv => ?_
  have := hc i v hv
  unfold cell cellB at this
  simp only [hb'] at this
  rwa [if_pos hm] at this

theorem setN_fine : ∀ (f n : Nat) (x : V) (t : T V) (k : T V → Bool), n + 1 < 2 ^ f → (∀ t', k t' = true) → T.setN f x t n k = true := by
  intro f
  induction f with
  | zero => intro n x t k h; simp at h
  | succ f ih =>
    intro n x t k h hk
    cases n with
    | zero => cases t <;> exact hk _
    | succ m =>
      have e : T.setN (f + 1) x t (m + 1) k = nS2 (m % 2) m (T.setN f) x t k := rfl
      have hm : m / 2 + 1 < 2 ^ f := by rw [Nat.pow_succ] at h; omega
      rw [e]
      rcases Nat.mod_two_eq_zero_or_one m with hp | hp
      · have e2 : nS2 (m % 2) m (T.setN f) x t k = nO t (T.setN f) x (m / 2) k := by rw [hp]; rfl
        rw [e2]
        cases t with
        | o => exact ih _ _ _ _ hm fun _ => hk _
        | n l v r => exact ih _ _ _ _ hm fun _ => hk _
      · have e2 : nS2 (m % 2) m (T.setN f) x t k = nI t (T.setN f) x (m / 2) k := by rw [hp]; rfl
        rw [e2]
        cases t with
        | o => exact ih _ _ _ _ hm fun _ => hk _
        | n l v r => exact ih _ _ _ _ hm fun _ => hk _
theorem setList_fine : ∀ (vs : List V) (n : Nat) (t : T V), n + vs.length < 2 ^ 38 → ∃ t', (∀ k, setList vs n t k = k t') ∧ (∀ i v, vs[i]? = some v → t'.getN (n + i) = some v) ∧ ∀ m, m < n ∨ n + vs.length ≤ m → t'.getN m = t.getN m := by
  have fine : ∀ (vs : List V) (n : Nat) (t : T V) (k : T V → Bool), n + vs.length < 2 ^ 38 → (∀ t', k t' = true) → setList vs n t k = true := by
    intro vs
    induction vs with
    | nil => intro n t k _ hk; exact hk t
    | cons v vs ih =>
      intro n t k hl hk
      exact setN_fine 40 n v t _ (by simp at hl; omega) fun t' => ih (n + 1) t' k (by simp at hl; omega) hk
  intro vs n t hl
  exact setList_ok vs n t (fun _ => true) (fine vs n t _ hl fun _ => rfl)

/-- what of a state stays: all blocks that there are, but those of which p holds -/
structure Stay (p : B → Prop) (h h' : H) : Prop where
  floor : h'.floor = h.floor
  next : B.val h.next ≤ B.val h'.next
  get : ∀ id, B.val id < B.val h.next → ¬ p id → h'.heap.get id = h.heap.get id
theorem Stay.refl (p : B → Prop) (h : H) : Stay p h h := ⟨rfl, Nat.le_refl _, fun _ _ _ => rfl⟩
theorem Stay.trans {p : B → Prop} {a b c : H} (x : Stay p a b) (y : Stay p b c) : Stay p a c :=
  ⟨y.floor.trans x.floor, Nat.le_trans x.next y.next, fun id h1 h2 => (y.get id (Nat.lt_of_lt_of_le h1 x.next) h2).trans (x.get id h1 h2)⟩
theorem Stay.mono {p q : B → Prop} {a b : H} (x : Stay p a b) (h : ∀ id, B.val id < B.val a.next → p id → q id) : Stay q a b := ⟨x.floor, x.next, fun id h1 h2 => x.get id h1 fun h3 => h2 (h id h1 h3)⟩
def nowhere : B → Prop := fun _ => False
theorem Stay.cell {p : B → Prop} {h h' : H} (x : Stay p h h') {id : B} (h1 : B.val id < B.val h.next) (h2 : ¬ p id) (g off : Nat) : cell h' id g off = cell h id g off := by
  unfold Ev.cell; rw [x.get id h1 h2]

/-- a new block -/
theorem alloc_new (el : Nat) (cs : List V) (h : H) (hl : cs.length < 2 ^ 38) : ∃ h', (∀ k, alloc el cs h k = k h.next h') ∧ Stay nowhere h h' ∧ B.val h'.next = B.val h.next + 1 ∧
    (∃ b, h'.heap.get h.next = some b ∧ b.min = 0 ∧ b.cur = 0 ∧ b.size = cs.length ∧ b.el = el ∧ b.fr = 0 ∧ ∀ i v, cs[i]? = some v → b.cells.getN i = some v) := by
  obtain ⟨next, floor, heap⟩ := h
  obtain ⟨tr, t1, t2, t3⟩ := setList_fine cs 0 .o (by omega)
  obtain ⟨hp, s1, s2, s3⟩ := setK_ok next (⟨0, 0, cs.length, tr, el, 0⟩ : Blk) heap
  obtain ⟨nx, n1, n2⟩ := incK_ok next
  refine ⟨⟨nx, floor, hp⟩, fun k => ?_, ⟨rfl, by show B.val next ≤ B.val nx; omega, fun id h1 _ => s3 id fun e => by rw [e] at h1; exact absurd h1 (Nat.lt_irrefl _)⟩, n2, ⟨0, 0, cs.length, tr, el, 0⟩, s2, rfl, rfl, rfl, rfl, rfl, fun i v hv => ?_⟩
  · show fN cs.length (fun sz => setList cs 0 .o fun t => T.setK next ⟨0, 0, sz, t, el, 0⟩ heap fun heap => B.incK next fun next' => k next ⟨next', floor, heap⟩) = _
    rw [fN_eq, t1, s1, n1]
  · have := t2 i v hv
    rwa [Nat.zero_add] at this

/-! ### Slices that are read -/
/-- the slice v reads as the cells xs (elements of one cell) -/
def Lst (h : H) (v : V) (xs : List V) : Prop :=
  (v = .l0 ∧ xs = []) ∨ ∃ id g off fin cap, v = .l id g off xs.length fin cap ∧ off + xs.length ≤ fin ∧ B.val id < B.val h.next ∧ Row h id g off xs
def lid : V → B | .l id _ _ _ _ _ => id | _ => .h
def lg : V → Nat | .l _ g _ _ _ _ => g | _ => 0
def loff : V → Nat | .l _ _ off _ _ _ => off | _ => 0
def lfin : V → Nat | .l _ _ _ _ fin _ => fin | _ => 0
noncomputable def lenV (v : V) (k : Nat → Bool) : Bool := vL v (fun _ => k 0) fun _ _ _ n _ _ => k n
noncomputable def idxV (size : Nat) (v : V) (n : Nat) (k : V → Bool) : Bool := vL v (fun _ => false) fun id g off len fin _ => ifK (Nat.ble (n + 1) len) fun _ => k (.p id g (off + n * size) fin)
theorem ev_len (x : O) (cf : CallF) (t : F) (h : H) (k : V → H → Bool) : doLen x cf t h k = lenV (oV x t) fun n => k (.i .i64 (n : Int)) h := by simp only [doLen, oE_eq]; rfl
theorem ev_idx (size : Nat) (o x : O) (cf : CallF) (t : F) (h : H) (k : V → H → Bool) : doIndexAddr size o x cf t h k = vI (oV x t) fun _ n => natK n fun n => idxV size (oV o t) n fun p => k p h := by
  have no : ∀ u : V, (vI u fun _ n => natK n fun _ => false) = false := by
    intro u
    cases u <;> first | rfl | (rename_i kd n; cases n <;> rfl)
  simp only [doIndexAddr, oE_eq]
  generalize oV o t = v
  generalize oV x t = u
  have hn : ∀ w : V, (∀ z k, vL w z k = false) → (vI u fun _ n => natK n fun n => idxV size w n fun p => k p h) = false := by
    intro w hw
    have : (fun (_ : IntKind) (n : Int) => natK n fun n => idxV size w n fun p => k p h) = fun _ n => natK n fun _ => false := by
      funext _ n; congr 1; funext n; exact hw _ _
    rw [this]; exact no u
  cases v with
  | l id g off len fin cap => simp only [vL_l, fN_eq]; rfl
  | l0 =>
    have : (vI u fun _ n => natK n fun n => idxV size .l0 n fun p => k p h) = false := no u
    rw [this]; rfl
  | _ => rw [hn _ fun _ _ => rfl]; rfl
theorem natK_cast (i : Nat) (k : Nat → Bool) : natK (i : Int) k = k i := rfl
theorem Lst.len {h0 : H} {v : V} {xs : List V} (a : Lst h0 v xs) (k : Nat → Bool) : lenV v k = k xs.length := by
  rcases a with ⟨rfl, rfl⟩ | ⟨id, g, off, fin, cap, rfl, _⟩ <;> rfl
theorem Lst.idx {h0 : H} {v : V} {xs : List V} {i : Nat} (a : Lst h0 v xs) (hi : i < xs.length) (k : V → Bool) : idxV 1 v i k = k (.p (lid v) (lg v) (loff v + i) (lfin v)) := by
  rcases a with ⟨rfl, rfl⟩ | ⟨id, g, off, fin, cap, rfl, _⟩
  · simp at hi
  · have h1 : Nat.ble (i + 1) xs.length = true := by rw [Nat.ble_eq]; exact hi
    show ifK (Nat.ble (i + 1) xs.length) (fun _ => k (.p id g (off + i * 1) fin)) = _
    rw [h1, ifK_true, Nat.mul_one]; rfl
theorem load_lst {h : H} {v : V} {xs : List V} {i : Nat} {y : V} (a : Lst h v xs) (hy : xs[i]? = some y) (k : V → Bool) : load1 h (lid v) (lg v) (loff v + i) (lfin v) k = k y := by
  have hi := (List.getElem?_eq_some_iff.1 hy).1
  rcases a with ⟨rfl, rfl⟩ | ⟨id, g, off, fin, cap, rfl, h2, _, h4⟩
  · simp at hi
  · exact load1_cell (h4.2 i y hy) (by show off + i < fin; omega) k
theorem Row.stay {p : B → Prop} {h h' : H} {id : B} {g off : Nat} {vs : List V} (r : Row h id g off vs) (s : Stay p h h') (h1 : B.val id < B.val h.next) (h2 : ¬ p id) : Row h' id g off vs := by
  obtain ⟨r1, r2⟩ := r
  exact ⟨(fun hne => by obtain ⟨b, b1, b2⟩ := r1 hne; exact ⟨b, (s.get id h1 h2).trans b1, b2⟩), fun i v hv => (s.cell h1 h2 g (off + i)).trans (r2 i v hv)⟩
theorem Lst.stay {p : B → Prop} {h h' : H} {v : V} {xs : List V} (a : Lst h v xs) (s : Stay p h h') (hp : ∀ id g off n fin cap, v = .l id g off n fin cap → ¬ p id) : Lst h' v xs := by
  rcases a with ⟨rfl, rfl⟩ | ⟨id, g, off, fin, cap, rfl, h2, h3, h4⟩
  · exact .inl ⟨rfl, rfl⟩
  · exact .inr ⟨id, g, off, fin, cap, rfl, h2, Nat.lt_of_lt_of_le h3 s.next, h4.stay s h3 (hp _ _ _ _ _ _ rfl)⟩
theorem Lst.grow {h h' : H} {v : V} {xs : List V} (a : Lst h v xs) (s : Stay nowhere h h') : Lst h' v xs := a.stay s fun _ _ _ _ _ _ _ => id

/-- a slice of bools -/
def Bl (h : H) (v : V) (R : List Bool) : Prop := Lst h v (R.map V.b)
theorem Bl.grow {h h' : H} {v : V} {R : List Bool} (a : Bl h v R) (s : Stay nowhere h h') : Bl h' v R := Lst.grow a s
theorem Bl.len {h0 : H} {v : V} {R : List Bool} (a : Bl h0 v R) (k : Nat → Bool) : lenV v k = k R.length := by
  rw [Lst.len a]; simp
theorem Bl.idx {h0 : H} {v : V} {R : List Bool} {i : Nat} (a : Bl h0 v R) (hi : i < R.length) (k : V → Bool) : idxV 1 v i k = k (.p (lid v) (lg v) (loff v + i) (lfin v)) := Lst.idx a (by simpa using hi) k
theorem Bl.rd {h : H} {v : V} {R : List Bool} {i : Nat} (a : Bl h v R) (hi : i < R.length) (k : V → Bool) : load1 h (lid v) (lg v) (loff v + i) (lfin v) k = k (.b (R.getD i false)) :=
  load_lst a (by simp [hi]) k
/-- a slice of slices of bools -/
def Mx (h : H) (v : V) (M : List (List Bool)) : Prop := ∃ rows, Lst h v rows ∧ rows.length = M.length ∧ ∀ i r, rows[i]? = some r → Bl h r (M.getD i [])
theorem Mx.grow {h h' : H} {v : V} {M : List (List Bool)} (a : Mx h v M) (s : Stay nowhere h h') : Mx h' v M := by
  obtain ⟨rows, r1, r2, r3⟩ := a
  exact ⟨rows, r1.grow s, r2, fun i r hr => (r3 i r hr).grow s⟩
theorem Mx.len {h0 : H} {v : V} {M : List (List Bool)} (a : Mx h0 v M) (k : Nat → Bool) : lenV v k = k M.length := by
  obtain ⟨rows, r1, r2, r3⟩ := a
  rw [r1.len, r2]
theorem Mx.idx {h0 : H} {v : V} {M : List (List Bool)} {i : Nat} (a : Mx h0 v M) (hi : i < M.length) (k : V → Bool) : idxV 1 v i k = k (.p (lid v) (lg v) (loff v + i) (lfin v)) := by
  obtain ⟨rows, r1, r2, r3⟩ := a
  exact r1.idx (by omega) k
theorem Mx.rd {h : H} {v : V} {M : List (List Bool)} {i : Nat} (a : Mx h v M) (hi : i < M.length) : ∃ r, Bl h r (M.getD i []) ∧ ∀ k : V → Bool, load1 h (lid v) (lg v) (loff v + i) (lfin v) k = k r := by
  obtain ⟨rows, r1, r2, r3⟩ := a
  have hi' : i < rows.length := by omega
  have hr : rows[i]? = some rows[i] := by simp
  exact ⟨rows[i], r3 i _ hr, load_lst r1 hr⟩
theorem res_1 (n : Nat) (t : F) (h : H) (k : List V → Bool) : resK [Rs.tmp (slOf n)] t h k = k [get n t] := by
  show forceV (sGet (slOf n) t) (fun v => k [v]) = _
  rw [forceV_eq]; rfl
theorem res_2 (n m : Nat) (t : F) (h : H) (k : List V → Bool) : resK [Rs.tmp (slOf n), Rs.tmp (slOf m)] t h k = k [get n t, get m t] := by
  show forceV (sGet (slOf n) t) (fun v => forceV (sGet (slOf m) t) fun u => k [v, u]) = _
  rw [forceV_eq, forceV_eq]; rfl
theorem one_1 (v : V) : one [v] = v := rfl
theorem one_2 (v u : V) : one [v, u] = .tu [v, u] := rfl

theorem Row.rd1 {h : H} {id : B} {g : Nat} {y : V} (r : Row h id g 0 [y]) (k : V → Bool) : load1 h id g 0 1 k = k y := load1_cell (by have := r.2 0 y rfl; exact this) (by omega) k
theorem Row.rdN {h : H} {id : B} {g n : Nat} {ys : List V} (r : Row h id g 0 ys) (hn : ys.length = n) (hne : ys ≠ []) (k : List V → Bool) : loadN h id g 0 n n k = k ys := loadN_row r hn hne (by omega) k
theorem Row.rdA {h : H} {id : B} {g : Nat} {y : V} (r : Row h id g 0 [y]) (k : List V → Bool) : loadN h id g 0 1 1 k = k [y] := loadN_row (n := 1) r rfl (by simp) (by omega) k
theorem Row.grow {h h' : H} {id : B} {g off : Nat} {vs : List V} (r : Row h id g off vs) (s : Stay nowhere h h') (h1 : B.val id < B.val h.next) : Row h' id g off vs := r.stay s h1 fun h => h
theorem Ops.box {P : Program} {S : Spec} {l : List CO} {t : F} {h : H} {K : F → H → Prop} {n : Nat} {b : Bool} {el : Nat} {o : O} {v : V} (e : oV o t = v) (hk : knownV v = true) (hl : (cells v).length < 2 ^ 38)
    (k : ∀ h1 id, Stay nowhere h h1 → B.val id < B.val h1.next → B.val h.next ≤ B.val id → Row h1 id 0 0 (cells v) → Ops P S l (put n (.p id 0 0 (cells v).length) t) h1 K) : Ops P S (.mk .none (.some (slOf n)) b (.mk (doBox el o)) :: l) t h K := by
  obtain ⟨h1, a1, a2, a3, blk, b1, b2, b3, b4, b5, b6, b7⟩ := alloc_new el (cells v) h hl
  refine Ops.op (v := .p h.next 0 0 (cells v).length) (h1 := h1) (fun k => ?_) (k h1 h.next a2 (by omega) (Nat.le_refl _) ⟨fun _ => ⟨blk, b1, by omega⟩, fun i y hy => ?_⟩)
  · show doBox el o _ t h k = _
    simp only [doBox, oK_eq, e, hk, ifK_true, a1]
  · unfold Ev.cell cellB
    rw [b1]
    show (if blk.min ≤ 0 then blk.cells.getN (0 + i) else none) = some y
    rw [if_pos (by omega), Nat.zero_add]
    exact b7 i y hy

theorem Ops.box1 {P : Program} {S : Spec} {l : List CO} {t : F} {h : H} {K : F → H → Prop} {n : Nat} {b : Bool} {el : Nat} {o : O} {v : V} (e : oV o t = .a [v])
    (k : ∀ h1 id, Stay nowhere h h1 → B.val id < B.val h1.next → B.val h.next ≤ B.val id → Row h1 id 0 0 [v] → Ops P S l (put n (.p id 0 0 1) t) h1 K) : Ops P S (.mk .none (.some (slOf n)) b (.mk (doBox el o)) :: l) t h K :=
  Ops.box e rfl (by show 1 < 2 ^ 38; decide) k

/-- A FUNCTION, as it is compiled -/
theorem fn_run {P : Program} {f : FuncId} {nt : Nat} {cc : CC} {rs : List Rs} {vs : List V} {h : H} {K : V → H → Prop} (hc : compFn P f = ⟨nt, cc, rs⟩) (hbad : cc ≠ .bad) (hl1 : vs.length ≤ nt) (hl2 : vs.length ≤ 512)
    (ok : Ok P nt cc (slotsF vs 0 F.zero) h fun x t' h' => match x with
      | .exit _ => False
      | _ => ∃ us, (∀ k : List V → Bool, resK rs t' h' k = k us) ∧ K (one us) h') : FnOk P f vs h K := by
  unfold compFn at hc
  split at hc
  · cases hc; exact absurd rfl hbad
  · rename_i fn hfn
    split at hc
    · rename_i b hb hnm
      cases hc
      exact fn_ok hfn hb hnm rfl rfl hl1 hl2 ok
    · cases hc; exact absurd rfl hbad

end Go.Ev
