/-
  How the evaluator's values and memory stand to the model's: the trees' laws, the relation, and what it bears.
-/
import Derived.Test.YtiecpllnbekmoaaEvA
import Derived.WalkKit
import Derived.ProofKit
set_option linter.all false
namespace Go.Ev
open Go

/-! ### Small words -/
theorem optK_ok {α : Type} {o : Option α} {k : α → Bool} (h : optK o k = true) : ∃ v, o = some v ∧ k v = true := by
  cases o with
  | none => exact Bool.noConfusion h
  | some v => exact ⟨v, rfl, h⟩
theorem ifK_ok {b : Bool} {k : Unit → Bool} (h : ifK b k = true) : b = true ∧ k () = true := by
  cases b with
  | false => exact Bool.noConfusion h
  | true => exact ⟨rfl, h⟩
theorem boolK_ok {b : Bool} {x y : Unit → Bool} (h : boolK b x y = true) : (b = true ∧ x () = true) ∨ (b = false ∧ y () = true) := by
  cases b with
  | false => exact .inr ⟨rfl, h⟩
  | true => exact .inl ⟨rfl, h⟩
theorem natK_ok {n : Int} {k : Nat → Bool} (h : natK n k = true) : ∃ m, n = .ofNat m ∧ k m = true := by
  cases n with
  | ofNat m => exact ⟨m, rfl, h⟩
  | negSucc m => exact Bool.noConfusion h
@[simp] theorem optK_some {α : Type} (v : α) (k : α → Bool) : optK (some v) k = k v := rfl
@[simp] theorem ifK_true (k : Unit → Bool) : ifK true k = k () := rfl
@[simp] theorem boolK_true (x y : Unit → Bool) : boolK true x y = x () := rfl
@[simp] theorem boolK_false (x y : Unit → Bool) : boolK false x y = y () := rfl
@[simp] theorem natK_ofNat (m : Nat) (k : Nat → Bool) : natK (.ofNat m) k = k m := rfl
@[simp] theorem fN_eq (n : Nat) (k : Nat → Bool) : fN n k = k n := by cases n <;> rfl
@[simp] theorem forceV_eq (v : V) (k : V → Bool) : forceV v k = k v := by cases v <;> rfl
@[simp] theorem forceI_eq (n : Int) (k : Int → Bool) : forceI n k = k n := by cases n <;> simp [forceI]
@[simp] theorem hK_mk (n f : B) (t : T Blk) (k : B → B → T Blk → Bool) : hK ⟨n, f, t⟩ k = k n f t := rfl
@[simp] theorem blkK_mk (a b c : Nat) (d : T V) (e f : Nat) (k : Nat → Nat → Nat → T V → Nat → Nat → Bool) : blkK ⟨a, b, c, d, e, f⟩ k = k a b c d e f := rfl

/-! ### The trees -/
section
variable {α : Type}
theorem setK_ok (p : B) : ∀ (x : α) (t : T α), ∃ t', (∀ k, T.setK p x t k = k t') ∧ t'.get p = some x ∧ ∀ q, q ≠ p → t'.get q = t.get q := by
  induction p with
  | h =>
    intro x t
    cases t with
    | o => exact ⟨.n .o (some x) .o, fun _ => rfl, rfl, fun q hq => by cases q <;> first | rfl | exact absurd rfl hq⟩
    | n l v r => exact ⟨.n l (some x) r, fun _ => rfl, rfl, fun q hq => by cases q <;> first | rfl | exact absurd rfl hq⟩
  | o p ih =>
    intro x t
    cases t with
    | o =>
      obtain ⟨t1, h1, h2, h3⟩ := ih x .o
      exact ⟨.n t1 none .o, fun k => h1 _, h2, fun q hq => by
        cases q with
        | h => rfl
        | o q => exact h3 q fun e => hq (by rw [e])
        | i q => rfl⟩
    | n l v r =>
      obtain ⟨t1, h1, h2, h3⟩ := ih x l
      exact ⟨.n t1 v r, fun k => h1 _, h2, fun q hq => by
        cases q with
        | h => rfl
        | o q => exact h3 q fun e => hq (by rw [e])
        | i q => rfl⟩
  | i p ih =>
    intro x t
    cases t with
    | o =>
      obtain ⟨t1, h1, h2, h3⟩ := ih x .o
      exact ⟨.n .o none t1, fun k => h1 _, h2, fun q hq => by
        cases q with
        | h => rfl
        | i q => exact h3 q fun e => hq (by rw [e])
        | o q => rfl⟩
    | n l v r =>
      obtain ⟨t1, h1, h2, h3⟩ := ih x r
      exact ⟨.n l v t1, fun k => h1 _, h2, fun q hq => by
        cases q with
        | h => rfl
        | i q => exact h3 q fun e => hq (by rw [e])
        | o q => rfl⟩

theorem getN_zero (l : T α) (v : Option α) (r : T α) : (T.n l v r).getN 0 = v := rfl
theorem getN_even (l : T α) (v : Option α) (r : T α) {m : Nat} (h : m % 2 = 0) : (T.n l v r).getN (m + 1) = l.getN (m / 2) := by
  show nGet2 (m % 2) m l.getN r.getN = _
  rw [h]; rfl
theorem getN_odd (l : T α) (v : Option α) (r : T α) {m : Nat} (h : m % 2 = 1) : (T.n l v r).getN (m + 1) = r.getN (m / 2) := by
  show nGet2 (m % 2) m l.getN r.getN = _
  rw [h]; rfl
theorem getN_o (m : Nat) : (T.o : T α).getN m = none := rfl

theorem nput_even {l l' r : T α} {v : Option α} {x : α} {m : Nat} (hm : m % 2 = 0) (h2 : l'.getN (m / 2) = some x) (h3 : ∀ q, q ≠ m / 2 → l'.getN q = l.getN q) :
    (T.n l' v r).getN (m + 1) = some x ∧ ∀ q, q ≠ m + 1 → (T.n l' v r).getN q = (T.n l v r).getN q := by
  refine ⟨by rw [getN_even _ _ _ hm, h2], fun q hq => ?_⟩
  cases q with
  | zero => rfl
  | succ q =>
    rcases Nat.mod_two_eq_zero_or_one q with hp | hp
    · rw [getN_even _ _ _ hp, getN_even _ _ _ hp]; exact h3 _ (by omega)
    · rw [getN_odd _ _ _ hp, getN_odd _ _ _ hp]
theorem nput_odd {l r r' : T α} {v : Option α} {x : α} {m : Nat} (hm : m % 2 = 1) (h2 : r'.getN (m / 2) = some x) (h3 : ∀ q, q ≠ m / 2 → r'.getN q = r.getN q) :
    (T.n l v r').getN (m + 1) = some x ∧ ∀ q, q ≠ m + 1 → (T.n l v r').getN q = (T.n l v r).getN q := by
  refine ⟨by rw [getN_odd _ _ _ hm, h2], fun q hq => ?_⟩
  cases q with
  | zero => rfl
  | succ q =>
    rcases Nat.mod_two_eq_zero_or_one q with hp | hp
    · rw [getN_even _ _ _ hp, getN_even _ _ _ hp]
    · rw [getN_odd _ _ _ hp, getN_odd _ _ _ hp]; exact h3 _ (by omega)
theorem getN_empty_node (q : Nat) : (T.n (.o : T α) none .o).getN q = (T.o : T α).getN q := by
  cases q with
  | zero => rfl
  | succ q =>
    rcases Nat.mod_two_eq_zero_or_one q with hp | hp
    · rw [getN_even _ _ _ hp]; rfl
    · rw [getN_odd _ _ _ hp]; rfl

theorem setN_ok : ∀ (f : Nat) (x : α) (t : T α) (n : Nat) (k : T α → Bool), T.setN f x t n k = true →
    ∃ t', (∀ k', T.setN f x t n k' = k' t') ∧ t'.getN n = some x ∧ ∀ m, m ≠ n → t'.getN m = t.getN m := by
  intro f
  induction f with
  | zero => intro x t n k h; exact Bool.noConfusion h
  | succ f ih =>
    intro x t n k h
    cases n with
    | zero =>
      cases t with
      | o => exact ⟨.n .o (some x) .o, fun _ => rfl, rfl, fun q hq => by
          cases q with
          | zero => exact absurd rfl hq
          | succ q => rw [← getN_empty_node (q + 1)]; rcases Nat.mod_two_eq_zero_or_one q with hp | hp <;> first | rw [getN_even _ _ _ hp, getN_even _ _ _ hp] | rw [getN_odd _ _ _ hp, getN_odd _ _ _ hp]⟩
      | n l v r => exact ⟨.n l (some x) r, fun _ => rfl, rfl, fun q hq => by
          cases q with
          | zero => exact absurd rfl hq
          | succ q => rcases Nat.mod_two_eq_zero_or_one q with hp | hp <;> first | rw [getN_even _ _ _ hp, getN_even _ _ _ hp] | rw [getN_odd _ _ _ hp, getN_odd _ _ _ hp]⟩
    | succ m =>
      have e : ∀ k', T.setN (f + 1) x t (m + 1) k' = nS2 (m % 2) m (T.setN f) x t k' := fun _ => rfl
      rw [e] at h
      rcases Nat.mod_two_eq_zero_or_one m with hp | hp
      · have e2 : ∀ k', nS2 (m % 2) m (T.setN f) x t k' = nO t (T.setN f) x (m / 2) k' := fun k' => by rw [hp]; rfl
        rw [e2] at h
        cases t with
        | o =>
          obtain ⟨t1, h1, h2, h3⟩ := ih x .o (m / 2) (fun a => k (.n a none .o)) h
          obtain ⟨h4, h5⟩ := nput_even (r := .o) (v := none) hp h2 h3
          exact ⟨.n t1 none .o, fun k' => by rw [e, e2]; exact h1 _, h4, fun q hq => (h5 q hq).trans (getN_empty_node q)⟩
        | n l v r =>
          obtain ⟨t1, h1, h2, h3⟩ := ih x l (m / 2) (fun a => k (.n a v r)) h
          obtain ⟨h4, h5⟩ := nput_even (r := r) (v := v) hp h2 h3
          exact ⟨.n t1 v r, fun k' => by rw [e, e2]; exact h1 _, h4, h5⟩
      · have e2 : ∀ k', nS2 (m % 2) m (T.setN f) x t k' = nI t (T.setN f) x (m / 2) k' := fun k' => by rw [hp]; rfl
        rw [e2] at h
        cases t with
        | o =>
          obtain ⟨t1, h1, h2, h3⟩ := ih x .o (m / 2) (fun a => k (.n .o none a)) h
          obtain ⟨h4, h5⟩ := nput_odd (l := .o) (v := none) hp h2 h3
          exact ⟨.n .o none t1, fun k' => by rw [e, e2]; exact h1 _, h4, fun q hq => (h5 q hq).trans (getN_empty_node q)⟩
        | n l v r =>
          obtain ⟨t1, h1, h2, h3⟩ := ih x r (m / 2) (fun a => k (.n l v a)) h
          obtain ⟨h4, h5⟩ := nput_odd (l := l) (v := v) hp h2 h3
          exact ⟨.n l v t1, fun k' => by rw [e, e2]; exact h1 _, h4, h5⟩
end

theorem setList_ok : ∀ (vs : List V) (n : Nat) (t : T V) (k : T V → Bool), setList vs n t k = true →
    ∃ t', (∀ k', setList vs n t k' = k' t') ∧ (∀ i v, vs[i]? = some v → t'.getN (n + i) = some v) ∧ ∀ m, m < n ∨ n + vs.length ≤ m → t'.getN m = t.getN m := by
  intro vs
  induction vs with
  | nil => intro n t k _; exact ⟨t, fun _ => rfl, fun i v h => by simp at h, fun _ _ => rfl⟩
  | cons x vs ih =>
    intro n t k h
    have e : ∀ k', setList (x :: vs) n t k' = T.setN 40 x t n fun t => setList vs (n + 1) t k' := fun _ => rfl
    rw [e] at h
    obtain ⟨t1, h1, h2, h3⟩ := setN_ok _ _ _ _ _ h
    rw [h1] at h
    obtain ⟨t2, h4, h5, h6⟩ := ih _ _ _ h
    refine ⟨t2, fun k' => by rw [e, h1, h4], fun i v hi => ?_, fun m hm => ?_⟩
    · cases i with
      | zero =>
        simp at hi
        subst hi
        rw [Nat.add_zero, h6 n (Or.inl (by omega)), h2]
      | succ i =>
        have := h5 i v (by simpa using hi)
        rwa [show n + 1 + i = n + (i + 1) by omega] at this
    · rw [h6 m (by simp at hm; omega), h3 m (by simp at hm; omega)]

theorem getList_ok : ∀ (n : Nat) (t : T V) (o : Nat) (k : List V → Bool), getList n t o k = true →
    ∃ vs, (∀ k', getList n t o k' = k' vs) ∧ vs.length = n ∧ ∀ i, i < n → t.getN (o + i) = vs[i]? := by
  intro n
  induction n with
  | zero => intro t o k _; exact ⟨[], fun _ => rfl, rfl, fun i hi => by omega⟩
  | succ n ih =>
    intro t o k h
    have e : ∀ k', getList (n + 1) t o k' = optK (t.getN o) fun v => getList n t (o + 1) fun vs => k' (v :: vs) := fun _ => rfl
    rw [e] at h
    obtain ⟨v, hv, h⟩ := optK_ok h
    obtain ⟨vs, h1, h2, h3⟩ := ih _ _ _ h
    refine ⟨v :: vs, fun k' => by rw [e, hv, optK_some, h1], by simp [h2], fun i hi => ?_⟩
    cases i with
    | zero => simpa using hv
    | succ i => have := h3 i (by omega); rw [show o + (i + 1) = o + 1 + i by omega, this]; rfl

/-! ### Numbers of blocks -/
theorem B.val_h : B.val .h = 1 := rfl
theorem B.val_o (p : B) : B.val (.o p) = 2 * B.val p := rfl
theorem B.val_i (p : B) : B.val (.i p) = 2 * B.val p + 1 := rfl
theorem B.val_pos (p : B) : 1 ≤ B.val p := by
  induction p with
  | h => rw [B.val_h]; omega
  | o p ih => rw [B.val_o]; omega
  | i p ih => rw [B.val_i]; omega
theorem B.val_inj : ∀ {p q : B}, B.val p = B.val q → p = q := by
  intro p
  induction p with
  | h => intro q h; cases q with
    | h => rfl
    | o q => rw [B.val_h, B.val_o] at h; omega
    | i q => rw [B.val_h, B.val_i] at h; have := B.val_pos q; omega
  | o p ih => intro q h; cases q with
    | h => rw [B.val_h, B.val_o] at h; omega
    | o q => rw [B.val_o, B.val_o] at h; rw [ih (q := q) (by omega)]
    | i q => rw [B.val_o, B.val_i] at h; omega
  | i p ih => intro q h; cases q with
    | h => rw [B.val_h, B.val_i] at h; have := B.val_pos p; omega
    | o q => rw [B.val_i, B.val_o] at h; omega
    | i q => rw [B.val_i, B.val_i] at h; rw [ih (q := q) (by omega)]
theorem incK_ok (p : B) : ∃ q, (∀ k, B.incK p k = k q) ∧ B.val q = B.val p + 1 := by
  induction p with
  | h => exact ⟨.o .h, fun _ => rfl, rfl⟩
  | o p ih => exact ⟨.i p, fun _ => rfl, rfl⟩
  | i p ih =>
    obtain ⟨q, h1, h2⟩ := ih
    exact ⟨.o q, fun k => h1 _, by rw [B.val_o, B.val_i, h2]; omega⟩
theorem geB_ok {f p : B} (h : B.geB f p = true) : B.val f ≤ B.val p := by
  cases f with
  | h => rw [B.val_h]; exact B.val_pos p
  | o f => exact Nat.le_of_ble_eq_true h
  | i f => exact Nat.le_of_ble_eq_true h

/-! ### Frames -/
theorem set8_ok {α : Type} (s : S8) (v : α) (x : F8 α) : ∃ x', (∀ k, set8 s v x k = k x') ∧ get8 s x' = v ∧ ∀ s', s' ≠ s → get8 s' x' = get8 s' x := by
  cases x with
  | mk a b c d e f g h =>
    cases s
    · exact ⟨⟨v, b, c, d, e, f, g, h⟩, fun _ => rfl, rfl, fun s' hs => by cases s' <;> first | rfl | exact absurd rfl hs⟩
    · exact ⟨⟨a, v, c, d, e, f, g, h⟩, fun _ => rfl, rfl, fun s' hs => by cases s' <;> first | rfl | exact absurd rfl hs⟩
    · exact ⟨⟨a, b, v, d, e, f, g, h⟩, fun _ => rfl, rfl, fun s' hs => by cases s' <;> first | rfl | exact absurd rfl hs⟩
    · exact ⟨⟨a, b, c, v, e, f, g, h⟩, fun _ => rfl, rfl, fun s' hs => by cases s' <;> first | rfl | exact absurd rfl hs⟩
    · exact ⟨⟨a, b, c, d, v, f, g, h⟩, fun _ => rfl, rfl, fun s' hs => by cases s' <;> first | rfl | exact absurd rfl hs⟩
    · exact ⟨⟨a, b, c, d, e, v, g, h⟩, fun _ => rfl, rfl, fun s' hs => by cases s' <;> first | rfl | exact absurd rfl hs⟩
    · exact ⟨⟨a, b, c, d, e, f, v, h⟩, fun _ => rfl, rfl, fun s' hs => by cases s' <;> first | rfl | exact absurd rfl hs⟩
    · exact ⟨⟨a, b, c, d, e, f, g, v⟩, fun _ => rfl, rfl, fun s' hs => by cases s' <;> first | rfl | exact absurd rfl hs⟩

theorem sPut_ok (s : Sl) (v : V) (t : F) : ∃ t', (∀ k, sPut s v t k = k t') ∧ sGet s t' = v ∧ ∀ s', s' ≠ s → sGet s' t' = sGet s' t := by
  obtain ⟨x, y, z⟩ := s
  obtain ⟨g1, e1, a1, b1⟩ := set8_ok z v (get8 y (get8 x t))
  obtain ⟨g2, e2, a2, b2⟩ := set8_ok y g1 (get8 x t)
  obtain ⟨g3, e3, a3, b3⟩ := set8_ok x g2 t
  refine ⟨g3, fun k => ?_, ?_, fun s' hs => ?_⟩
  · show set8 z v (get8 y (get8 x t)) _ = _
    rw [e1]
    show set8 y g1 (get8 x t) _ = _
    rw [e2]
    exact e3 k
  · show get8 z (get8 y (get8 x g3)) = v
    rw [a3, a2, a1]
  · obtain ⟨x', y', z'⟩ := s'
    show get8 z' (get8 y' (get8 x' g3)) = get8 z' (get8 y' (get8 x' t))
    by_cases hx : x' = x
    · subst hx
      rw [a3]
      by_cases hy : y' = y
      · subst hy
        rw [a2]
        exact b1 z' fun e => hs (by rw [e])
      · rw [b2 y' hy]
    · rw [b3 x' hx]

theorem s8_inj : ∀ {a b : Nat}, a < 8 → b < 8 → s8 a = s8 b → a = b := by
  have key : ∀ a b : Fin 8, s8 a = s8 b → a = b := by decide
  intro a b ha hb h
  have := key ⟨a, ha⟩ ⟨b, hb⟩ h
  simpa using this
theorem slOf_inj {a b : Nat} (ha : a < 512) (hb : b < 512) (h : slOf a = slOf b) : a = b := by
  simp only [slOf, Sl.mk.injEq] at h
  have h1 := s8_inj (by omega) (by omega) h.1
  have h2 := s8_inj (by omega) (by omega) h.2.1
  have h3 := s8_inj (by omega) (by omega) h.2.2
  omega

/-! ### The relation -/
/-- where a block of the evaluator's lies, as its g-th append left it: the model's block; which cell lies first; behind the last one; how many cells the model's block has -/
structure Loc where
  b : Nat
  s : Nat
  e : Nat
  cs : Nat
  it : Option (Sum (Nat × Nat × Array Nat × Nat) (Array MapEntry × Nat))   -- of an iterator over a map, of a map that is being ranged over: just what it is
abbrev Emb := B → Nat → Option Loc

mutual
def VRel (ρ : Emb) : V → Value → Prop
  | .u, _ => True
  | .b x, v => v = .bool x
  | .i k n, v => v = .int k n
  | .r k m r hi, v => ∃ n : Nat, v = .int k n ∧ n % m = r ∧ n ≤ hi
  | .s len n, v => ∃ bs : ByteArray, v = .string bs ∧ bs.size = len ∧ bs.data.toList.foldl (fun a c => 256 * a + c.toNat) 0 = n
  | .p0, v => v = .pointer none
  | .p id g off fin, v => ∃ L, ρ id g = some L ∧ v = .pointer (some ⟨L.b, off - L.s, none⟩) ∧ L.s ≤ off ∧ fin ≤ L.e
  | .l0, v => v = .slice none 0 0
  | .l id g off len fin cap, v => ∃ L a c, ρ id g = some L ∧ v = .slice (some a) len c ∧ len ≤ c ∧ L.s ≤ off ∧ fin ≤ L.e ∧
      ((len = 0 ∧ (cap = none ∨ cap = some 0)) ∨ a = ⟨L.b, off - L.s, none⟩) ∧
      (∀ d, cap = some d → c = d) ∧ (cap = none → len = 0 ∨ ∃ z, 1 ≤ z ∧ fin = off + len * z ∧ off - L.s + c * z ≤ L.cs)
  | .a cs, v => ∃ arr, v = .agg arr ∧ LRel ρ cs arr.toList
  | .tu cs, v => ∃ arr, v = .tuple arr ∧ LRel ρ cs arr.toList
  | .f0, v => v = .nilFunc
  | .f fn cs, v => ∃ arr, v = .func (.func fn) #[] arr ∧ LRel ρ cs arr.toList
  | .x0, v => v = .nilIface
  | .x t y, v => ∃ z, v = .iface t z ∧ VRel ρ y z
  | .m0, v => v = .map none
  | .m id, v => ∃ L, ρ id 0 = some L ∧ v = .map (some L.b)
def LRel (ρ : Emb) : List V → List Value → Prop
  | [], [] => True
  | x :: xs, y :: ys => VRel ρ x y ∧ LRel ρ xs ys
  | _, _ => False
end

def Emb.le (ρ ρ' : Emb) : Prop := ∀ id g L, ρ id g = some L → ρ' id g = some L
theorem Emb.le_refl (ρ : Emb) : ρ.le ρ := fun _ _ _ h => h
theorem Emb.le_trans {a b c : Emb} (h : a.le b) (h' : b.le c) : a.le c := fun _ _ _ x => h' _ _ _ (h _ _ _ x)

theorem VRel.up {ρ ρ' : Emb} (h : ρ.le ρ') : ∀ (v : V) (x : Value), VRel ρ v x → VRel ρ' v x := by
  intro v
  refine V.rec (motive_1 := fun v => ∀ x, VRel ρ v x → VRel ρ' v x) (motive_2 := fun vs => ∀ xs, LRel ρ vs xs → LRel ρ' vs xs)
    ?_ ?_ ?_ ?_ ?_ ?_ ?_ ?_ ?_ ?_ ?_ ?_ ?_ ?_ ?_ ?_ ?_ ?_ ?_ v
  · intro x hx; trivial
  · intro b x hx; exact hx
  · intro k n x hx; exact hx
  · intro k m r hi x hx; exact hx
  · intro l n x hx; exact hx
  · intro x hx; exact hx
  · intro id g off fin x hx
    obtain ⟨L, h1, h2⟩ := hx
    exact ⟨L, h _ _ _ h1, h2⟩
  · intro x hx; exact hx
  · intro id g off len fin cap x hx
    obtain ⟨L, a, c, h1, h2⟩ := hx
    exact ⟨L, a, c, h _ _ _ h1, h2⟩
  · intro cs ih x hx
    obtain ⟨arr, h1, h2⟩ := hx
    exact ⟨arr, h1, ih _ h2⟩
  · intro cs ih x hx
    obtain ⟨arr, h1, h2⟩ := hx
    exact ⟨arr, h1, ih _ h2⟩
  · intro x hx; exact hx
  · intro fn cs ih x hx
    obtain ⟨arr, h1, h2⟩ := hx
    exact ⟨arr, h1, ih _ h2⟩
  · intro x hx; exact hx
  · intro t y ih x hx
    obtain ⟨z, h1, h2⟩ := hx
    exact ⟨z, h1, ih _ h2⟩
  · intro x hx; exact hx
  · intro id x hx
    obtain ⟨L, h1, h2⟩ := hx
    exact ⟨L, h _ _ _ h1, h2⟩
  · intro xs hx; cases xs <;> exact hx
  · intro y ys ih1 ih2 xs hx
    cases xs with
    | nil => exact hx
    | cons x xs => exact ⟨ih1 _ hx.1, ih2 _ hx.2⟩

theorem LRel.up {ρ ρ' : Emb} (h : ρ.le ρ') : ∀ {vs : List V} {xs : List Value}, LRel ρ vs xs → LRel ρ' vs xs
  | [], [], _ => trivial
  | _ :: _, _ :: _, hx => ⟨VRel.up h _ _ hx.1, LRel.up h hx.2⟩
  | [], _ :: _, hx => hx.elim
  | _ :: _, [], hx => hx.elim

theorem LRel.length {ρ : Emb} : ∀ {vs : List V} {xs : List Value}, LRel ρ vs xs → vs.length = xs.length
  | [], [], _ => rfl
  | _ :: _, _ :: _, hx => by simp [LRel.length hx.2]
  | [], _ :: _, hx => hx.elim
  | _ :: _, [], hx => hx.elim
theorem LRel.get {ρ : Emb} : ∀ {vs : List V} {xs : List Value}, LRel ρ vs xs → ∀ {i : Nat} {v : V}, vs[i]? = some v → ∃ x, xs[i]? = some x ∧ VRel ρ v x
  | [], [], _, i, v, h => by simp at h
  | y :: ys, x :: xs, hx, i, v, h => by
    cases i with
    | zero => simp at h; subst h; exact ⟨x, rfl, hx.1⟩
    | succ i => exact LRel.get hx.2 (by simpa using h)
  | [], _ :: _, hx, _, _, _ => hx.elim
  | _ :: _, [], hx, _, _, _ => hx.elim
theorem LRel.of_get {ρ : Emb} : ∀ {vs : List V} {xs : List Value}, vs.length = xs.length → (∀ (i : Nat) v x, vs[i]? = some v → xs[i]? = some x → VRel ρ v x) → LRel ρ vs xs
  | [], [], _, _ => trivial
  | y :: ys, x :: xs, hl, h => ⟨h 0 y x rfl rfl, LRel.of_get (by simpa using hl) fun i v x h1 h2 => h (i + 1) v x (by simpa using h1) (by simpa using h2)⟩
  | [], _ :: _, hl, _ => by simp at hl
  | _ :: _, [], hl, _ => by simp at hl
theorem LRel.append {ρ : Emb} : ∀ {vs : List V} {xs : List Value} {vs' : List V} {xs' : List Value}, LRel ρ vs xs → LRel ρ vs' xs' → LRel ρ (vs ++ vs') (xs ++ xs')
  | [], [], _, _, _, h => h
  | _ :: _, _ :: _, _, _, hx, h => ⟨hx.1, LRel.append hx.2 h⟩
  | [], _ :: _, _, _, hx, _ => hx.elim
  | _ :: _, [], _, _, hx, _ => hx.elim
theorem LRel.take {ρ : Emb} {vs : List V} {xs : List Value} (h : LRel ρ vs xs) (n : Nat) : LRel ρ (vs.take n) (xs.take n) := by
  refine LRel.of_get (by simp [h.length]) fun i v x h1 h2 => ?_
  rw [List.getElem?_take] at h1 h2
  split at h1
  · rename_i hi
    simp only [hi, if_true] at h2
    obtain ⟨y, h3, h4⟩ := h.get h1
    rw [h2] at h3
    cases h3
    exact h4
  · cases h1
theorem LRel.drop {ρ : Emb} {vs : List V} {xs : List Value} (h : LRel ρ vs xs) (n : Nat) : LRel ρ (vs.drop n) (xs.drop n) := by
  refine LRel.of_get (by simp [h.length]) fun i v x h1 h2 => ?_
  rw [List.getElem?_drop] at h1 h2
  obtain ⟨y, h3, h4⟩ := h.get h1
  rw [h2] at h3
  cases h3
  exact h4

theorem cells_rel {ρ : Emb} {v : V} {x : Value} (hu : v ≠ .u) (h : VRel ρ v x) : LRel ρ (cells v) x.cells.toList := by
  cases v with
  | u => exact absurd rfl hu
  | a cs => obtain ⟨arr, rfl, h2⟩ := h; exact h2
  | b y => cases h; exact ⟨rfl, trivial⟩
  | i k n => cases h; exact ⟨rfl, trivial⟩
  | r k m r hi => have h' := h; obtain ⟨n, rfl, h2⟩ := h; exact ⟨h', trivial⟩
  | s l n => have h' := h; obtain ⟨bs, rfl, h2⟩ := h; exact ⟨h', trivial⟩
  | p0 => cases h; exact ⟨rfl, trivial⟩
  | p id g off fin => have h' := h; obtain ⟨L, h1, rfl, h2⟩ := h; exact ⟨h', trivial⟩
  | l0 => cases h; exact ⟨rfl, trivial⟩
  | l id g off len fin cap => have h' := h; obtain ⟨L, a, c, h1, rfl, h2⟩ := h; exact ⟨h', trivial⟩
  | tu cs => have h' := h; obtain ⟨arr, rfl, h2⟩ := h; exact ⟨h', trivial⟩
  | f0 => cases h; exact ⟨rfl, trivial⟩
  | f fn cs => have h' := h; obtain ⟨arr, rfl, h2⟩ := h; exact ⟨h', trivial⟩
  | x0 => cases h; exact ⟨rfl, trivial⟩
  | x t y => have h' := h; obtain ⟨z, rfl, h2⟩ := h; exact ⟨h', trivial⟩
  | m0 => cases h; exact ⟨rfl, trivial⟩
  | m id => have h' := h; obtain ⟨L, h1, rfl⟩ := h; exact ⟨h', trivial⟩

theorem oneV_ok {ρ : Emb} {v : V} {x : Value} (ho : oneV v = true) (h : VRel ρ v x) : x.oneCell' = true := by
  cases v with
  | u => exact Bool.noConfusion ho
  | a cs => exact Bool.noConfusion ho
  | tu cs => exact Bool.noConfusion ho
  | b y => cases h; rfl
  | i k n => cases h; rfl
  | r k m r hi => obtain ⟨n, rfl, h2⟩ := h; rfl
  | s l n => obtain ⟨bs, rfl, h2⟩ := h; rfl
  | p0 => cases h; rfl
  | p id g off fin => obtain ⟨L, h1, rfl, h2⟩ := h; rfl
  | l0 => cases h; rfl
  | l id g off len fin cap => obtain ⟨L, a, c, h1, rfl, h2⟩ := h; rfl
  | f0 => cases h; rfl
  | f fn cs => obtain ⟨arr, rfl, h2⟩ := h; rfl
  | x0 => cases h; rfl
  | x t y => obtain ⟨z, rfl, h2⟩ := h; rfl
  | m0 => cases h; rfl
  | m id => obtain ⟨L, h1, rfl⟩ := h; rfl
theorem allOne_ok {ρ : Emb} : ∀ {vs : List V} {xs : List Value}, allOne vs = true → LRel ρ vs xs → ∀ x ∈ xs, x.oneCell' = true
  | [], [], _, _, x, hx => by cases hx
  | v :: vs, y :: ys, ho, h, x, hx => by
    have e : allOne (v :: vs) = Bool.rec false (allOne vs) (oneV v) := rfl
    cases hv : oneV v with
    | false => rw [e, hv] at ho; exact Bool.noConfusion ho
    | true =>
      rw [e, hv] at ho
      rcases List.mem_cons.1 hx with rfl | hx
      · exact oneV_ok hv h.1
      · exact allOne_ok ho h.2 x hx
  | [], _ :: _, _, h, _, _ => h.elim
  | _ :: _, [], _, h, _, _ => h.elim

end Go.Ev
