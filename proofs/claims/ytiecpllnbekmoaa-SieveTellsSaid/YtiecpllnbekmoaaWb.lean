/-
  The walk: what each operation makes, as equations; conditions, guards, calls, results.
-/
import Derived.Test.YtiecpllnbekmoaaEvX
import Derived.Test.YtiecpllnbekmoaaWa
set_option linter.all false
namespace Go.Ev
open Go

/-- operations, shortly -/
noncomputable def wB (n : Nat) (r : Run) : CO := .mk .none (.some (slOf n)) true (.mk r)
noncomputable def uB (n : Nat) (r : Run) : CO := .mk .none (.some (slOf n)) false (.mk r)
noncomputable def wG (g : Nat) (w : Bool) (n : Nat) (r : Run) : CO := .mk (.some (slOf g) w) (.some (slOf n)) true (.mk r)
noncomputable def uG (g : Nat) (w : Bool) (n : Nat) (r : Run) : CO := .mk (.some (slOf g) w) (.some (slOf n)) false (.mk r)
noncomputable def oN (n : Nat) : O := .c (.i .i64 (.ofNat n))
theorem wB_eq (n : Nat) (r : Run) : wB n r = .mk .none (.some (slOf n)) true (.mk r) := rfl
theorem uB_eq (n : Nat) (r : Run) : uB n r = .mk .none (.some (slOf n)) false (.mk r) := rfl
theorem wG_eq (g : Nat) (w : Bool) (n : Nat) (r : Run) : wG g w n r = .mk (.some (slOf g) w) (.some (slOf n)) true (.mk r) := rfl
theorem uG_eq (g : Nat) (w : Bool) (n : Nat) (r : Run) : uG g w n r = .mk (.some (slOf g) w) (.some (slOf n)) false (.mk r) := rfl
theorem oN_eq (n : Nat) : oN n = .c (.i .i64 (.ofNat n)) := rfl
/-- what stands behind an operation -/
inductive Nx where
  | w (n : Nat) (l : List CO) (t : F) (K : F → H → Prop)
  | w0 (l : List CO) (t : F) (K : F → H → Prop)
  | d (n : Nat) (l : List CO) (t : F) (K : F → H → Prop)
  | d0 (l : List CO) (t : F) (K : F → H → Prop)
  | u (n : Nat) (l : List CO) (t : F) (h : H) (K : F → H → Prop)
  | u0 (l : List CO) (t : F) (h : H) (K : F → H → Prop)
def Nx.go (P : Program) : Nx → V → H → Prop
  | .w n l t K, v, h => WO P l (put n v t) h K
  | .w0 l t K, _, h => WO P l t h K
  | .d n l t K, v, h => DO P l (put n v t) h K
  | .d0 l t K, _, h => DO P l t h K
  | .u n l t h0 K, v, h => DO P l (put n v t) (unFloor h0 h) K
  | .u0 l t h0 K, _, h => DO P l t (unFloor h0 h) K
/-- the operation r, then N -/
def OR (P : Program) (r : Run) (t : F) (h : H) (N : Nx) : Prop := ∃ v h', RunRel P (.mk r) t h v h' ∧ N.go P v h'
/-- a guard, then r and N, or N alone -/
def GD (P : Program) (q : V) (w : Bool) (r : Run) (t : F) (h : H) (N : Nx) : Prop := ∃ b, (∀ k, vG q w k = k b) ∧ ((b = true ∧ OR P r t h N) ∨ (b = false ∧ N.go P (.tu []) h))

theorem b_of {b c : Bool} (e : ∀ k : Bool → Bool, k b = k c) : c = b := (e id).symm
theorem v_of {v u : V} (e : ∀ k : V → Bool, k v = k u) : u = v := by
  have := e fun x => @decide (x = v) (Classical.propDecidable _)
  simp at this
  exact this
theorem f_of {v u : F} (e : ∀ k : F → Bool, k v = k u) : u = v := by
  have := e fun x => @decide (x = v) (Classical.propDecidable _)
  simp at this
  exact this
theorem l_of {v u : List V} (e : ∀ k : List V → Bool, k v = k u) : u = v := by
  have := e fun x => @decide (x = v) (Classical.propDecidable _)
  simp at this
  exact this
theorem vh_of {v u : V} {h g : H} (e : ∀ k : V → H → Bool, k v h = k u g) : u = v ∧ g = h := by
  have := e fun x y => @decide (x = v ∧ y = h) (Classical.propDecidable _)
  simp at this
  exact ⟨this.1, this.2⟩

section
variable {P : Program} {l : List CO} {t : F} {h : H} {K : F → H → Prop} {r : Run} {n g : Nat} {w b : Bool}
theorem wo_nil : WO P [] t h K = K t h := propext ⟨fun ⟨_, _, ⟨e1, e2⟩, k⟩ => by subst e1; subst e2; exact k, fun k => ⟨t, h, ⟨rfl, rfl⟩, k⟩⟩
theorem do_nil : DO P [] t h K = K t h := propext ⟨fun ⟨_, _, ⟨e1, e2⟩, k⟩ => by subst e1; subst e2; exact k, fun k => ⟨t, h, ⟨rfl, rfl⟩, k⟩⟩
theorem putS {v : V} (k : F → Bool) : putD (.some (slOf n)) v t k = k (put n v t) := sPut_put n v t k
theorem wo_c : WO P (.mk .none (.some (slOf n)) b (.mk r) :: l) t h K = OR P r t h (.w n l t K) := by
  apply propext; constructor
  · rintro ⟨t', h', ⟨t1, h1, ⟨q, g1, g2⟩, e⟩, k⟩
    have hq := b_of (b := true) (c := q) fun k => g1 k
    subst hq
    rcases g2 with ⟨_, v, rr, p⟩ | ⟨e', _⟩
    · have := f_of fun k => (putS k).symm.trans (p k)
      subst this
      exact ⟨v, h1, rr, t', h', e, k⟩
    · cases e'
  · rintro ⟨v, h1, rr, t', h', e, k⟩
    exact ⟨t', h', ⟨_, h1, ⟨true, fun _ => rfl, .inl ⟨rfl, v, rr, fun k => putS k⟩⟩, e⟩, k⟩
theorem wo_0 : WO P (.mk .none .none b (.mk r) :: l) t h K = OR P r t h (.w0 l t K) := by
  apply propext; constructor
  · rintro ⟨t', h', ⟨t1, h1, ⟨q, g1, g2⟩, e⟩, k⟩
    have hq := b_of (b := true) (c := q) fun k => g1 k
    subst hq
    rcases g2 with ⟨_, v, rr, p⟩ | ⟨e', _⟩
    · have := f_of fun k => p k
      subst this
      exact ⟨v, h1, rr, t', h', e, k⟩
    · cases e'
  · rintro ⟨v, h1, rr, t', h', e, k⟩
    exact ⟨t', h', ⟨_, h1, ⟨true, fun _ => rfl, .inl ⟨rfl, v, rr, fun k => rfl⟩⟩, e⟩, k⟩
theorem wo_g : WO P (.mk (.some (slOf g) w) (.some (slOf n)) b (.mk r) :: l) t h K = GD P (get g t) w r t h (.w n l t K) := by
  apply propext; constructor
  · rintro ⟨t', h', ⟨t1, h1, ⟨q, g1, g2⟩, e⟩, k⟩
    refine ⟨q, g1, ?_⟩
    rcases g2 with ⟨rfl, v, rr, p⟩ | ⟨rfl, rfl, p⟩
    · have := f_of fun k => (putS k).symm.trans (p k)
      subst this
      exact .inl ⟨rfl, v, h1, rr, t', h', e, k⟩
    · have := f_of fun k => (putS k).symm.trans (p k)
      subst this
      exact .inr ⟨rfl, t', h', e, k⟩
  · rintro ⟨q, g1, ⟨rfl, v, h1, rr, t', h', e, k⟩ | ⟨rfl, t', h', e, k⟩⟩
    · exact ⟨t', h', ⟨_, h1, ⟨true, g1, .inl ⟨rfl, v, rr, fun k => putS k⟩⟩, e⟩, k⟩
    · exact ⟨t', h', ⟨_, h, ⟨false, g1, .inr ⟨rfl, rfl, fun k => putS k⟩⟩, e⟩, k⟩
theorem wo_g0 : WO P (.mk (.some (slOf g) w) .none b (.mk r) :: l) t h K = GD P (get g t) w r t h (.w0 l t K) := by
  apply propext; constructor
  · rintro ⟨t', h', ⟨t1, h1, ⟨q, g1, g2⟩, e⟩, k⟩
    refine ⟨q, g1, ?_⟩
    rcases g2 with ⟨rfl, v, rr, p⟩ | ⟨rfl, rfl, p⟩
    · have := f_of fun k => p k
      subst this
      exact .inl ⟨rfl, v, h1, rr, t', h', e, k⟩
    · have := f_of fun k => p k
      subst this
      exact .inr ⟨rfl, t', h', e, k⟩
  · rintro ⟨q, g1, ⟨rfl, v, h1, rr, t', h', e, k⟩ | ⟨rfl, t', h', e, k⟩⟩
    · exact ⟨t', h', ⟨_, h1, ⟨true, g1, .inl ⟨rfl, v, rr, fun k => rfl⟩⟩, e⟩, k⟩
    · exact ⟨t', h', ⟨_, h, ⟨false, g1, .inr ⟨rfl, rfl, fun k => rfl⟩⟩, e⟩, k⟩
/-! regions that draw -/
theorem do_c : DO P (.mk .none (.some (slOf n)) true (.mk r) :: l) t h K = OR P r t h (.d n l t K) := by
  apply propext; constructor
  · rintro ⟨t', h', ⟨t1, h1, ⟨q, g1, g2⟩, e⟩, k⟩
    have hq := b_of (b := true) (c := q) fun k => g1 k
    subst hq
    rcases g2 with ⟨_, v, rr, p⟩ | ⟨e', _⟩
    · have := f_of fun k => (putS k).symm.trans (p k)
      subst this
      exact ⟨v, h1, rr, t', h', e, k⟩
    · cases e'
  · rintro ⟨v, h1, rr, t', h', e, k⟩
    exact ⟨t', h', ⟨_, h1, ⟨true, fun _ => rfl, .inl ⟨rfl, v, rr, fun k => putS k⟩⟩, e⟩, k⟩
theorem do_0 : DO P (.mk .none .none true (.mk r) :: l) t h K = OR P r t h (.d0 l t K) := by
  apply propext; constructor
  · rintro ⟨t', h', ⟨t1, h1, ⟨q, g1, g2⟩, e⟩, k⟩
    have hq := b_of (b := true) (c := q) fun k => g1 k
    subst hq
    rcases g2 with ⟨_, v, rr, p⟩ | ⟨e', _⟩
    · have := f_of fun k => p k
      subst this
      exact ⟨v, h1, rr, t', h', e, k⟩
    · cases e'
  · rintro ⟨v, h1, rr, t', h', e, k⟩
    exact ⟨t', h', ⟨_, h1, ⟨true, fun _ => rfl, .inl ⟨rfl, v, rr, fun k => rfl⟩⟩, e⟩, k⟩
theorem do_g : DO P (.mk (.some (slOf g) w) (.some (slOf n)) true (.mk r) :: l) t h K = GD P (get g t) w r t h (.d n l t K) := by
  apply propext; constructor
  · rintro ⟨t', h', ⟨t1, h1, ⟨q, g1, g2⟩, e⟩, k⟩
    refine ⟨q, g1, ?_⟩
    rcases g2 with ⟨rfl, v, rr, p⟩ | ⟨rfl, rfl, p⟩
    · have := f_of fun k => (putS k).symm.trans (p k)
      subst this
      exact .inl ⟨rfl, v, h1, rr, t', h', e, k⟩
    · have := f_of fun k => (putS k).symm.trans (p k)
      subst this
      exact .inr ⟨rfl, t', h', e, k⟩
  · rintro ⟨q, g1, ⟨rfl, v, h1, rr, t', h', e, k⟩ | ⟨rfl, t', h', e, k⟩⟩
    · exact ⟨t', h', ⟨_, h1, ⟨true, g1, .inl ⟨rfl, v, rr, fun k => putS k⟩⟩, e⟩, k⟩
    · exact ⟨t', h', ⟨_, h, ⟨false, g1, .inr ⟨rfl, rfl, fun k => putS k⟩⟩, e⟩, k⟩
theorem do_u : DO P (.mk .none (.some (slOf n)) false (.mk r) :: l) t h K = OR P r t (reFloor h) (.u n l t h K) := by
  apply propext; constructor
  · rintro ⟨t', h', ⟨t1, h1, ⟨q, g1, g2⟩, e⟩, k⟩
    have hq := b_of (b := true) (c := q) fun k => g1 k
    subst hq
    rcases g2 with ⟨_, v, h2, rr, rfl, p⟩ | ⟨e', _⟩
    · have := f_of fun k => (putS k).symm.trans (p k)
      subst this
      exact ⟨v, h2, rr, t', h', e, k⟩
    · cases e'
  · rintro ⟨v, h2, rr, t', h', e, k⟩
    exact ⟨t', h', ⟨_, _, ⟨true, fun _ => rfl, .inl ⟨rfl, v, h2, rr, rfl, fun k => putS k⟩⟩, e⟩, k⟩
theorem do_u0 : DO P (.mk .none .none false (.mk r) :: l) t h K = OR P r t (reFloor h) (.u0 l t h K) := by
  apply propext; constructor
  · rintro ⟨t', h', ⟨t1, h1, ⟨q, g1, g2⟩, e⟩, k⟩
    have hq := b_of (b := true) (c := q) fun k => g1 k
    subst hq
    rcases g2 with ⟨_, v, h2, rr, rfl, p⟩ | ⟨e', _⟩
    · have := f_of fun k => p k
      subst this
      exact ⟨v, h2, rr, t', h', e, k⟩
    · cases e'
  · rintro ⟨v, h2, rr, t', h', e, k⟩
    exact ⟨t', h', ⟨_, _, ⟨true, fun _ => rfl, .inl ⟨rfl, v, h2, rr, rfl, fun k => rfl⟩⟩, e⟩, k⟩
theorem unFloor_re (h : H) : unFloor h (reFloor h) = h := by cases h; rfl
theorem do_gu : DO P (.mk (.some (slOf g) w) (.some (slOf n)) false (.mk r) :: l) t h K = GD P (get g t) w r t (reFloor h) (.u n l t h K) := by
  apply propext; constructor
  · rintro ⟨t', h', ⟨t1, h1, ⟨q, g1, g2⟩, e⟩, k⟩
    refine ⟨q, g1, ?_⟩
    rcases g2 with ⟨rfl, v, h2, rr, rfl, p⟩ | ⟨rfl, rfl, p⟩
    · have := f_of fun k => (putS k).symm.trans (p k)
      subst this
      exact .inl ⟨rfl, v, h2, rr, t', h', e, k⟩
    · have := f_of fun k => (putS k).symm.trans (p k)
      subst this
      exact .inr ⟨rfl, t', h', by rw [unFloor_re]; exact e, k⟩
  · rintro ⟨q, g1, ⟨rfl, v, h2, rr, t', h', e, k⟩ | ⟨rfl, t', h', e, k⟩⟩
    · exact ⟨t', h', ⟨_, _, ⟨true, g1, .inl ⟨rfl, v, h2, rr, rfl, fun k => putS k⟩⟩, e⟩, k⟩
    · rw [unFloor_re] at e
      exact ⟨t', h', ⟨_, h, ⟨false, g1, .inr ⟨rfl, rfl, fun k => putS k⟩⟩, e⟩, k⟩
end

/-! ### Behind an operation -/
section
variable {P : Program} {l : List CO} {t : F} {h h0 : H} {K : F → H → Prop} {n : Nat} {v : V}
theorem go_w : (Nx.w n l t K).go P v h = WO P l (put n v t) h K := rfl
theorem go_w0 : (Nx.w0 l t K).go P v h = WO P l t h K := rfl
theorem go_d : (Nx.d n l t K).go P v h = DO P l (put n v t) h K := rfl
theorem go_d0 : (Nx.d0 l t K).go P v h = DO P l t h K := rfl
theorem go_u : (Nx.u n l t h0 K).go P v h = DO P l (put n v t) (unFloor h0 h) K := rfl
theorem go_u0 : (Nx.u0 l t h0 K).go P v h = DO P l t (unFloor h0 h) K := rfl
end
section
variable {P : Program} {r : Run} {t : F} {h : H} {N : Nx} {w q : Bool}
theorem gd_eq : GD P (.b q) w r t h N = if q = w then OR P r t h N else N.go P (.tu []) h := by
  have e1 : ∀ f, vG (.b q) w f = f (xor (xor q w) true) := fun _ => rfl
  apply propext; constructor
  · rintro ⟨b, g1, g2⟩
    have := b_of fun k => (e1 k).symm.trans (g1 k)
    subst this
    rcases g2 with ⟨e, k⟩ | ⟨e, k⟩
    · rw [if_pos (by cases q <;> cases w <;> simp_all)]; exact k
    · rw [if_neg (by cases q <;> cases w <;> simp_all)]; exact k
  · intro k
    refine ⟨_, e1, ?_⟩
    split at k
    · rename_i e; exact .inl ⟨by cases q <;> cases w <;> simp_all, k⟩
    · rename_i e; exact .inr ⟨by cases q <;> cases w <;> simp_all, k⟩
theorem gd_tt : GD P (.b true) true r t h N = OR P r t h N := by rw [gd_eq]; rfl
theorem gd_ff : GD P (.b false) false r t h N = OR P r t h N := by rw [gd_eq]; rfl
theorem gd_tf : GD P (.b true) false r t h N = N.go P (.tu []) h := by rw [gd_eq]; rfl
theorem gd_ft : GD P (.b false) true r t h N = N.go P (.tu []) h := by rw [gd_eq]; rfl
theorem gd_tu : GD P (.tu []) w r t h N = N.go P (.tu []) h := by
  have e1 : ∀ f, vG (.tu []) w f = f false := fun _ => rfl
  apply propext; constructor
  · rintro ⟨b, g1, g2⟩
    have := b_of fun k => (e1 k).symm.trans (g1 k)
    subst this
    rcases g2 with ⟨e, k⟩ | ⟨e, k⟩
    · cases e
    · exact k
  · intro k; exact ⟨_, e1, .inr ⟨rfl, k⟩⟩
/-- a guard that isn't decided -/
theorem gd_split (a : q = true → GD P (.b true) w r t h N) (b : q = false → GD P (.b false) w r t h N) : GD P (.b q) w r t h N := by
  cases q with
  | true => exact a rfl
  | false => exact b rfl
end

/-! ### Operations that leave memory alone -/
def HV (P : Program) (g : (V → Bool) → Bool) (h : H) (N : Nx) : Prop := ∃ v, (∀ k, g k = k v) ∧ N.go P v h
def H1 (P : Program) (g : V → (V → Bool) → Bool) (x : V) (h : H) (N : Nx) : Prop := HV P (g x) h N
def H2 (P : Program) (g : V → V → (V → Bool) → Bool) (x y : V) (h : H) (N : Nx) : Prop := HV P (g x y) h N
def H3 (P : Program) (g : V → V → V → (V → Bool) → Bool) (x y z : V) (h : H) (N : Nx) : Prop := HV P (g x y z) h N
theorem or_hv {P : Program} {r : Run} {t : F} {h : H} {N : Nx} {g : (V → Bool) → Bool} (e : ∀ cf k, r cf t h k = g fun v => k v h) : OR P r t h N = HV P g h N := by
  apply propext; constructor
  · rintro ⟨v, h', ⟨cf, c1, c2⟩, k⟩
    have hh : h' = h := by
      have h1 := c2 fun _ x => @decide (x = h) (Classical.propDecidable _)
      have h2 := c2 fun _ _ => true
      have e1 := e cf fun _ x => @decide (x = h) (Classical.propDecidable _)
      have e2 := e cf fun _ _ => true
      have : (fun (v : V) => (fun _ x => @decide (x = h) (Classical.propDecidable _)) v h) = fun (v : V) => (fun _ _ => true) v h := by funext v; simp
      rw [this, ← e2] at e1
      have h1' : r cf t h (fun _ x => @decide (x = h) (Classical.propDecidable _)) = @decide (h' = h) (Classical.propDecidable _) := h1
      have h2' : r cf t h (fun _ _ => true) = true := h2
      rw [e1, h2'] at h1'
      simpa using h1'.symm
    subst hh
    exact ⟨v, fun k0 => by rw [← e cf fun v _ => k0 v]; exact c2 _, k⟩
  · rintro ⟨v, g1, k⟩
    exact ⟨v, h, ⟨_, cfSome P, fun k => by show r _ t h k = _; rw [e, g1]⟩, k⟩
theorem hv_of {P : Program} {h : H} {N : Nx} {g : (V → Bool) → Bool} {v : V} (e : ∀ k, g k = k v) : HV P g h N = N.go P v h :=
  propext ⟨fun ⟨u, g1, k⟩ => by have := v_of fun k => (e k).symm.trans (g1 k); subst this; exact k, fun k => ⟨v, e, k⟩⟩

noncomputable def gBin (f : BinF) (x y : V) (k : V → Bool) : Bool := vI x fun kd a => vI y fun kd' b => ifK (kdEq kd kd') fun _ => f kd a b k
noncomputable def gShift (f : IntKind → Int → Nat → (V → Bool) → Bool) (x y : V) (k : V → Bool) : Bool := vI x fun kd a => vI y fun _ b => natK b fun n => f kd a (min n kd.bits) k
noncomputable def gRem (x y : V) (k : V → Bool) : Bool := vI y fun kd' b => vIR x (fun kd a => ifK (kdEq kd kd') fun _ => fRem kd a b k) fun kd m r _ => remR kd' b k kd m r
noncomputable def gBool (ne : Bool) (x y : V) (k : V → Bool) : Bool := vB x fun a => vB y fun b => k (.b (xor ne (xor (xor a b) true)))
noncomputable def gNot (x : V) (k : V → Bool) : Bool := vB x fun a => k (.b (!a))
noncomputable def gNeg (x : V) (k : V → Bool) : Bool := vI x fun kd n => wrapF (Int.neg n) kd (mxOf kd) k
noncomputable def gConv (kd : IntKind) (x : V) (k : V → Bool) : Bool := vIR x (fun _ n => k (.i kd (kd.wrap n))) fun _ m r hi => ifK (Nat.ble hi (mxOf kd)) fun _ => k (.r kd m r hi)
noncomputable def gExt (j : Nat) (x : V) (k : V → Bool) : Bool := vT x fun vs => optK (vs[j]?) k
noncomputable def gLenS (x : V) (k : V → Bool) : Bool := vS x fun n _ => k (.i .i64 (.ofNat n))
noncomputable def gLen (x : V) (k : V → Bool) : Bool := lenV x fun n => k (.i .i64 (n : Int))
noncomputable def gMin (x y : V) (k : V → Bool) : Bool := vI x fun kd a => vI y fun kd' b => ifK (kdEq kd kd') fun _ => k (.i kd (min a b))
noncomputable def gMax (x y : V) (k : V → Bool) : Bool := vI x fun kd a => vI y fun kd' b => ifK (kdEq kd kd') fun _ => k (.i kd (max a b))
noncomputable def gPick (c x y : V) (k : V → Bool) : Bool := vB c fun q => k (cond q x y)
noncomputable def gField (d : Nat) (x : V) (k : V → Bool) : Bool := vA x fun cs => optK (cs[d]?) k
noncomputable def gFieldA (d size : Nat) (x : V) (k : V → Bool) : Bool := vA x fun cs => k (.a ((cs.drop d).take size))
noncomputable def gFieldAddr (d : Nat) (x : V) (k : V → Bool) : Bool := vP x fun id g off fin => k (.p id g (off + d) fin)
noncomputable def gNilCheck (x : V) (k : V → Bool) : Bool := vP x fun id g off fin => k (.p id g off fin)
noncomputable def gIndex (size : Nat) (x y : V) (k : V → Bool) : Bool := vI y fun _ n => natK n fun n => idxV size x n k
noncomputable def gIndexArr (len size : Nat) (x y : V) (k : V → Bool) : Bool := vP x fun id g off fin => vI y fun _ n => natK n fun n => ifK (Nat.ble (Nat.succ n) len) fun _ => k (.p id g (off + n * size) fin)
noncomputable def gSIndex (x y : V) (k : V → Bool) : Bool := vI y fun _ n => natK n fun n => sixV x n k
noncomputable def gAIndex (len size : Nat) (x y : V) (k : V → Bool) : Bool := vA x fun cs => vI y fun _ n => natK n fun n => ifK (Nat.ble (Nat.succ n) len) fun _ => optK (cs[Nat.mul n size]?) k
noncomputable def gSS2 (x a b : V) (k : V → Bool) : Bool := vI a fun _ p => natK p fun p => vI b fun _ q => natK q fun q => ssV x p q k
noncomputable def gSS1 (x b : V) (k : V → Bool) : Bool := vI b fun _ q => natK q fun q => ssV x 0 q k
noncomputable def gSSa (x a : V) (k : V → Bool) : Bool := vI a fun _ p => natK p fun p => ssaV x p k
noncomputable def gMoveS (x : V) (k : V → Bool) : Bool := vS x fun l n => k (.s l n)
noncomputable def gNil (f : V → (Bool → Bool) → Bool) (ne : Bool) (x y : V) (k : V → Bool) : Bool := f x fun a => f y fun b => ifK (a || b) fun _ => k (.b (xor ne (a && b)))
noncomputable def gSliceArr (n size : Nat) (x a : V) (k : V → Bool) : Bool := vP x fun id g off fin => vI a fun _ p => natK p fun p => ifK (Nat.ble p n) fun _ => sliceC size id g off n fin n p n k

section
variable {P : Program} {t : F} {h : H} {N : Nx} (o x y c : O)
theorem or_move : OR P (doMove o) t h N = N.go P (oV o t) h := (or_hv (g := fun k => k (oV o t)) fun cf k => ev_move ..).trans (hv_of fun _ => rfl)
theorem or_pick : OR P (doPick c x y) t h N = H3 P gPick (oV c t) (oV x t) (oV y t) h N := or_hv fun cf k => ev_pick ..
theorem or_bin (f : BinF) : OR P (bin2 f x y) t h N = H2 P (gBin f) (oV x t) (oV y t) h N := or_hv fun cf k => ev_bin ..
theorem or_shift (f : IntKind → Int → Nat → (V → Bool) → Bool) : OR P (doShift f x y) t h N = H2 P (gShift f) (oV x t) (oV y t) h N := or_hv fun cf k => ev_shift ..
theorem or_rem : OR P (doRem x y) t h N = H2 P gRem (oV x t) (oV y t) h N := or_hv fun cf k => ev_rem ..
theorem or_bool (ne : Bool) : OR P (doBool ne x y) t h N = H2 P (gBool ne) (oV x t) (oV y t) h N := or_hv fun cf k => ev_bool ..
theorem or_not : OR P (doNot x) t h N = H1 P gNot (oV x t) h N := or_hv fun cf k => ev_not ..
theorem or_neg : OR P (doNeg x) t h N = H1 P gNeg (oV x t) h N := or_hv fun cf k => by simp only [doNeg, oE_eq]; rfl
theorem or_conv (kd : IntKind) : OR P (doConv kd x) t h N = H1 P (gConv kd) (oV x t) h N := or_hv fun cf k => ev_convR ..
theorem or_ext (j : Nat) : OR P (doExtract j x) t h N = H1 P (gExt j) (oV x t) h N := or_hv fun cf k => ev_extract ..
theorem or_lenS : OR P (doLenS x) t h N = H1 P gLenS (oV x t) h N := or_hv fun cf k => ev_lenS ..
theorem or_len : OR P (doLen x) t h N = H1 P gLen (oV x t) h N := or_hv fun cf k => ev_len ..
theorem or_min : OR P (doMin x y) t h N = H2 P gMin (oV x t) (oV y t) h N := or_hv fun cf k => ev_min ..
theorem or_max : OR P (doMax x y) t h N = H2 P gMax (oV x t) (oV y t) h N := or_hv fun cf k => ev_max ..
theorem or_field (d : Nat) : OR P (doField d o) t h N = H1 P (gField d) (oV o t) h N := or_hv fun cf k => ev_field ..
theorem or_fieldA (d size : Nat) : OR P (doFieldA d size o) t h N = H1 P (gFieldA d size) (oV o t) h N := or_hv fun cf k => ev_fieldA ..
theorem or_fieldAddr (d : Nat) : OR P (doFieldAddr d o) t h N = H1 P (gFieldAddr d) (oV o t) h N := or_hv fun cf k => ev_fieldAddr ..
theorem or_nilCheck : OR P (doNilCheck o) t h N = H1 P gNilCheck (oV o t) h N := or_hv fun cf k => ev_nilCheck ..
theorem or_idx (size : Nat) : OR P (doIndexAddr size o x) t h N = H2 P (gIndex size) (oV o t) (oV x t) h N := or_hv fun cf k => ev_idx ..
theorem or_idxArr (len size : Nat) : OR P (doIndexAddrArr len size o x) t h N = H2 P (gIndexArr len size) (oV o t) (oV x t) h N := or_hv fun cf k => ev_idxArr ..
theorem or_sindex : OR P (doSIndex x y) t h N = H2 P gSIndex (oV x t) (oV y t) h N := or_hv fun cf k => ev_sindex ..
theorem or_aindex (len size : Nat) : OR P (doAIndex len size x y) t h N = H2 P (gAIndex len size) (oV x t) (oV y t) h N := or_hv fun cf k => by simp only [doAIndex, oE_eq, forceV_eq]; rfl
theorem or_concat : OR P (doConcat x y) t h N = H2 P catV (oV x t) (oV y t) h N := or_hv fun cf k => ev_concat ..
theorem or_scmp (f : Nat → Nat → Nat → Nat → Bool) : OR P (doSCmp f x y) t h N = H2 P (scV f) (oV x t) (oV y t) h N := or_hv fun cf k => ev_scmp ..
theorem or_ss2 (a b : O) : OR P (doSSlice x (some a) (some b)) t h N = H3 P gSS2 (oV x t) (oV a t) (oV b t) h N := or_hv fun cf k => ev_ss2 ..
theorem or_ss1 (b : O) : OR P (doSSlice x none (some b)) t h N = H2 P gSS1 (oV x t) (oV b t) h N := or_hv fun cf k => ev_ss1 ..
theorem or_ssa (a : O) : OR P (doSSlice x (some a) none) t h N = H2 P gSSa (oV x t) (oV a t) h N := or_hv fun cf k => ev_ssa ..
theorem or_moveS : OR P (doMoveS x) t h N = H1 P gMoveS (oV x t) h N := or_hv fun cf k => by simp only [doMoveS, oE_eq]; rfl
theorem or_nil (f : V → (Bool → Bool) → Bool) (ne : Bool) : OR P (doNil f ne x y) t h N = H2 P (gNil f ne) (oV x t) (oV y t) h N := or_hv fun cf k => by simp only [doNil, oE_eq, fB_eq]; rfl
theorem or_sliceArr (n size : Nat) (a : O) : OR P (doSliceArr n size x (some a) none) t h N = H2 P (gSliceArr n size) (oV x t) (oV a t) h N := or_hv fun cf k => ev_sliceArr ..
end
end Go.Ev
