/-
  The evaluator's operations against the model's: append, len, min, max; all operations.
-/
import Derived.Test.YtiecpllnbekmoaaEvF
set_option linter.all false
namespace Go.Ev
open Go

/-- the world, with another count of draws -/
def dr (w : World) (d : Nat) : World := { w with drawn := d }
theorem HRel.dr {ρ : Emb} {h : H} {w w0 : World} (R : HRel ρ h w w0) (d : Nat) : HRel ρ h (dr w d) w0 :=
  ⟨R.loc, R.ids, R.sep, R.flo, R.old, R.up, R.tp, R.os, R.out, R.siz, R.mp, R.ito⟩

theorem growBy_le (n : Nat) : ∀ (r c : Nat), Builtin.growBy n r c ≤ max c (n + (n + 768) / 4)
  | 0, c => Nat.le_max_left _ _
  | r + 1, c => by
    unfold Builtin.growBy
    split
    · exact Nat.le_max_left _ _
    · have := growBy_le n r (c + (c + 768) / 4)
      omega
theorem nextcap_le (need cap : Nat) (h : cap < need) : Builtin.nextslicecap need cap ≤ 2 * need + 192 := by
  unfold Builtin.nextslicecap
  split
  · omega
  · split
    · omega
    · have := growBy_le need 4 cap
      omega

theorem run_append_in (P : Program) (w w2 : World) (t t' ty elem e' : TypeId) (i : TypeInfo) (base : Option Addr) (sLen sCap n : Nat) (x : Value) (new : Array Value)
    (hu : P.underlying t = some (.slice elem)) (hu' : P.underlying t' = some (.slice e') ∨ P.underlying t' = some .string) (hi : P.info? elem = some i) (hl : (Builtin.lenOf x).run P w = .ok n w)
    (hc : sLen + n ≤ sCap) (hnew : (Builtin.firstCells i.size n x).run P w = .ok new w)
    (hst : ∀ a, base = some a → (storeCells (a.add (sLen * i.size)) new.toList).run P w = .ok () w2) (hno : base = none → w2 = w) :
    (Builtin.append_ #[t, t'] ty #[.slice base sLen sCap, x]).run P w = .ok (.slice base (sLen + n) sCap) w2 := by
  unfold Builtin.append_
  rcases hu' with hu' | hu' <;> simp only [List.getElem?_toArray, List.getElem?_cons_zero, List.getElem?_cons_succ, Sem.run_bind, run_underlying hu, run_underlying hu', Result.andThen_ok, run_sizeOf' hi, Sem.run_pure', Bool.false_eq_true, if_false, hl, Bool.not_false, if_true, hc, hnew]
  all_goals cases base with
  | none => rw [hno rfl]; rfl
  | some a => simp only [Sem.run_bind, hst a rfl, Result.andThen_ok]; rfl

theorem run_append_out (P : Program) (w : World) (t t' ty elem e' : TypeId) (i : TypeInfo) (zv : Value) (base : Option Addr) (sLen sCap n : Nat) (x : Value) (old new : Array Value)
    (hu : P.underlying t = some (.slice elem)) (hu' : P.underlying t' = some (.slice e') ∨ P.underlying t' = some .string) (hi : P.info? elem = some i) (hz : i.zero = some zv) (hl : (Builtin.lenOf x).run P w = .ok n w)
    (hc : ¬ sLen + n ≤ sCap) (hb : sLen + n ≤ 1048576) (hby : i.bytes ≤ 65536)
    (hold : (Builtin.firstCells i.size sLen (.slice base sLen sCap)).run P (dr w (w.drawn + 1)) = .ok old (dr w (w.drawn + 1)))
    (hnew : (Builtin.firstCells i.size n x).run P (dr w (w.drawn + 1)) = .ok new (dr w (w.drawn + 1))) :
    ∃ newCap, sLen + n ≤ newCap ∧ (Builtin.append_ #[t, t'] ty #[.slice base sLen sCap, x]).run P w =
      .ok (.slice (some ⟨w.heap.size, 0, none⟩) (sLen + n) newCap) ((dr w (w.drawn + 1)).alloc (.cells (old ++ new ++ Builtin.zeroCells zv.cells (newCap - (sLen + n))) elem)) := by
  refine ⟨(Question.appendCap (sLen + n) sCap elem).cut (w.tape w.drawn (Question.appendCap (sLen + n) sCap elem)), by simp [Question.cut], ?_⟩
  unfold Builtin.append_
  rcases hu' with hu' | hu' <;> simp only [List.getElem?_toArray, List.getElem?_cons_zero, List.getElem?_cons_succ, Sem.run_bind, run_underlying hu, run_underlying hu', Result.andThen_ok, run_sizeOf' hi, Sem.run_pure', Bool.false_eq_true, if_false, hl, Bool.not_false, if_true, hc,
    run_typeInfo' hi]
  all_goals
    have h1 : ¬ ((sLen + n : Nat) : Int) > IntKind.i64.max := by
      have : IntKind.i64.max = 9223372036854775807 := by decide
      omega
    have h2 : ¬ Builtin.nextslicecap (sLen + n) sCap * i.bytes > 2 ^ 48 := by
      have := nextcap_le (sLen + n) sCap (by omega)
      have h3 := Nat.mul_le_mul (show Builtin.nextslicecap (sLen + n) sCap ≤ 2097344 by omega) hby
      omega
    rw [if_neg (by rintro ⟨h, _⟩; exact h1 h)]
    simp only [Sem.run_bind, run_typeInfo' hi, Result.andThen_ok]
    rw [if_neg h2]
    have hch : (choose (Question.appendCap (sLen + n) sCap elem)).run P w = .ok ((Question.appendCap (sLen + n) sCap elem).cut (w.tape w.drawn (Question.appendCap (sLen + n) sCap elem))) (dr w (w.drawn + 1)) := rfl
    simp only [Sem.run_bind, hch, Result.andThen_ok]
    have hroom : ∀ b, (askRoom b).run P (dr w (w.drawn + 1)) = .ok () (dr w (w.drawn + 1)) := by
      intro b; unfold askRoom; split <;> rfl
    simp only [run_typeInfo' hi, hroom, Result.andThen_ok, hold, hnew, run_zero' hi hz]
    rfl

theorem newCells_ok {size : Nat} {x : V} {h : H} {k : Nat → List V → Bool} (hk : newCells size x h k = true) :
    ∃ n vs, (∀ k', newCells size x h k' = k' n vs) ∧ vs.length = n * size ∧ ∀ ρ xv, VRel ρ x xv → (∀ (P : Program) w, (Builtin.lenOf xv).run P w = .ok n w) ∧
      ∀ w w0, HRel ρ h w w0 → ∃ new : Array Value, LRel ρ vs new.toList ∧ ∀ (P : Program), (Builtin.firstCells size n xv).run P w = .ok new w := by
  rcases vL_ok hk with ⟨hv, hk⟩ | ⟨id, g, off, len, fin, cap, hv, hk⟩
  · subst hv
    refine ⟨0, [], fun k' => rfl, by simp, fun ρ xv hx => ?_⟩
    have hx' : xv = .slice none 0 0 := hx
    subst hx'
    exact ⟨fun P w => rfl, fun w w0 R => ⟨#[], trivial, fun P => rfl⟩⟩
  · subst hv
    cases len with
    | zero =>
      refine ⟨0, [], fun k' => rfl, by simp, fun ρ xv hx => ?_⟩
      obtain ⟨L, ad, c, l1, rfl, lc, l3, l4, l5, l6, l7⟩ := hx
      exact ⟨fun P w => rfl, fun w w0 R => ⟨#[], trivial, fun P => by unfold Builtin.firstCells; rw [Nat.zero_mul]; rfl⟩⟩
    | succ len =>
    have hk : loadN h id g off fin (Nat.mul (len + 1) size) (fun vs => k (len + 1) vs) = true := hk
    obtain ⟨vs, h1, h2, h3⟩ := loadN_ok hk
    refine ⟨len + 1, vs, fun k' => by show loadN h id g off fin (Nat.mul (len + 1) size) (fun vs => k' (len + 1) vs) = _; rw [h1], h2, fun ρ xv hx => ?_⟩
    obtain ⟨L, ad, c, l1, rfl, lc, l3, l4, l5, l6, l7⟩ := hx
    refine ⟨fun P w => rfl, fun w w0 R => ?_⟩
    obtain ⟨xs, x1, x2, x3⟩ := h3 ρ w w0 L R l1 l3 l4
    rcases l5 with ⟨h0, _⟩ | rfl
    · omega
    · exact ⟨xs.toArray, by simpa using x1, fun P => by unfold Builtin.firstCells; exact x2 P⟩

theorem newCellsS_ok {x : V} {k : Nat → List V → Bool} (hk : newCellsS x k = true) :
    ∃ n vs, (∀ k', newCellsS x k' = k' n vs) ∧ vs.length = n * 1 ∧ ∀ ρ xv, VRel ρ x xv → (∀ (P : Program) w, (Builtin.lenOf xv).run P w = .ok n w) ∧
      ∃ new : Array Value, LRel ρ vs new.toList ∧ ∀ (P : Program) (w : World), (Builtin.firstCells 1 n xv).run P w = .ok new w := by
  obtain ⟨l, n, rfl, hk2⟩ := vS_ok hk
  refine ⟨l, unp l n [], fun k' => by simp only [newCellsS, vS_s, unpK_eq], by simp [unp_length], fun ρ xv hx => ?_⟩
  obtain ⟨bs, rfl, e1, e2, e3⟩ := srel hx
  refine ⟨fun P w => by rw [← e3]; rfl, ((bs.extract 0 l).data.map fun b => .int .u8 b.toNat), ?_, fun P w => rfl⟩
  have e4 : (bs.extract 0 l).data.toList = bs.data.toList := by
    rw [ByteArray.data_extract, Array.toList_extract, List.extract_eq_take_drop]
    rw [List.drop_zero, List.take_of_length_le (by omega)]
  rw [← e2, unp_pk l bs.data.toList [] e1, List.append_nil, Array.toList_map, e4]
  exact bytes_rel ρ _

/-- 'append' over which the walk goes: what it makes of the slice and the new cells -/
def AppSound (P : Program) (t t' ty elem : TypeId) (s x : V) (h : H) (v : V) (h' : H) : Prop :=
  ∀ ρ w w0 sv xv, HRel ρ h w w0 → VRel ρ s sv → VRel ρ x xv → ∃ y w', (Builtin.append_ #[t, t'] ty #[sv, xv]).run P w = .ok y w' ∧ Done h.floor ρ w0 v h' y w'

theorem sub_lt_of {p s off m : Nat} (h : p < off + m) (hs : s ≤ off) (hp : s ≤ p) : p - s < off - s + m := by omega
theorem arith3 {off s m fin p : Nat} (h1 : off + m = fin) (h2 : s ≤ off) (h3 : fin ≤ p) : off - s + m + (p - fin) = p - s := by omega
theorem arith4 {off s p : Nat} (h : s ≤ off) (h2 : off ≤ p) : off - s + (p - off) = p - s := by omega
theorem sub_lt_two {p f n : Nat} (h : p < f + n) (h2 : f ≤ p) : p - f < n := by omega
theorem zeroCells_size (z : Array Value) (n : Nat) : (Builtin.zeroCells z n).size = n * z.size := by simp [Builtin.zeroCells]

section
variable {P : Program} {t t' ty elem e' : TypeId} {i : TypeInfo}
variable (hu : P.underlying t = some (.slice elem)) (hu' : P.underlying t' = some (.slice e') ∨ P.underlying t' = some .string) (hi : P.info? elem = some i) (hz : (zeroOf i.zero).length = i.size) (hs1 : 1 ≤ i.size) (hby : i.bytes ≤ 65536)
include hu hu' hi hz hs1 hby

omit hu hu' hi hz hs1 hby in
theorem natC_ok {n : Nat} {z : Unit → Bool} {k : Nat → Bool} (h : natC n z k = true) : (n = 0 ∧ z () = true) ∨ (∃ m, n = m + 1 ∧ k n = true) := by
  cases n with
  | zero => exact .inl ⟨rfl, h⟩
  | succ m => exact .inr ⟨m, rfl, h⟩
omit hu hu' hi hz hs1 hby in
@[simp] theorem natC_zero (z : Unit → Bool) (k : Nat → Bool) : natC 0 z k = z () := rfl
omit hu hu' hi hz hs1 hby in
@[simp] theorem natC_succ (n : Nat) (z : Unit → Bool) (k : Nat → Bool) : natC (n + 1) z k = k (n + 1) := rfl

theorem appNil_ok {x : V} {n : Nat} {vs : List V} {h : H} {k : V → H → Bool} (hk : appNil elem n vs h k = true) (hlen : vs.length = n * i.size)
    (hx : ∀ ρ xv, VRel ρ x xv → (∀ (P : Program) w, (Builtin.lenOf xv).run P w = .ok n w) ∧ ∀ w w0, HRel ρ h w w0 → ∃ new : Array Value, LRel ρ vs new.toList ∧ ∀ (P : Program), (Builtin.firstCells i.size n xv).run P w = .ok new w) :
    ∃ v h', (∀ k', appNil elem n vs h k' = k' v h') ∧ KeepF h h' ∧ B.val h.next ≤ B.val h'.next ∧ AppSound P t t' ty elem .l0 x h v h' := by
  cases n with
  | zero =>
    refine ⟨.l0, h, fun k' => rfl, KeepF.refl h, Nat.le_refl _, fun ρ w w0 sv xv R hsv hxv => ?_⟩
    have hsv' : sv = .slice none 0 0 := hsv
    subst hsv'
    obtain ⟨x1, x2⟩ := hx ρ xv hxv
    obtain ⟨new, n1, n2⟩ := x2 w w0 R
    exact ⟨_, _, run_append_in P w w t t' ty elem e' i none 0 0 0 xv new hu hu' hi (x1 P w) (Nat.le_refl _) (n2 P) (fun a ha => by cases ha) (fun _ => rfl), ρ, Ext.refl _ ρ, rfl, R⟩
  | succ m =>
    simp only [appNil, natC_succ] at hk
    obtain ⟨hb, hk⟩ := ifK_ok hk
    obtain ⟨h', g1, g2, g3, g4⟩ := alloc_ok hk
    have hb' : m + 1 ≤ 1048576 := Nat.le_of_ble_eq_true hb
    refine ⟨.l h.next 0 0 (m + 1) vs.length none, h', fun k' => by simp only [appNil, natC_succ, hb, ifK_true, g1], g2, g3, fun ρ w w0 sv xv R hsv hxv => ?_⟩
    have hsv' : sv = .slice none 0 0 := hsv
    subst hsv'
    obtain ⟨x1, x2⟩ := hx ρ xv hxv
    obtain ⟨new, n1, n2⟩ := x2 (dr w (w.drawn + 1)) w0 (R.dr _)
    obtain ⟨zv, z1, z2⟩ := zero_rel (ρ := ρ) (z := i.zero) (by omega)
    obtain ⟨nc, c1, c2⟩ := run_append_out P w t t' ty elem e' i zv none 0 0 (m + 1) xv #[] new hu hu' hi z1 (x1 P w) (by omega) (by omega) hby rfl (n2 P)
    have nl := n1.length
    have zl := z2.length
    simp at nl zl
    obtain ⟨ρ', e1, e2, e3⟩ := g4 ρ (dr w (w.drawn + 1)) w0 (#[] ++ new ++ Builtin.zeroCells zv.cells (nc - (0 + (m + 1)))) 0 _ (R.dr _) (by simp; omega) rfl
      (fun j v y hv hy => by
        obtain ⟨q, d1, d2⟩ := n1.get hv
        have hj : j < new.size := by have := (List.getElem?_eq_some_iff.1 d1).1; simpa using this
        have : some q = some y := by
          rw [← d1, ← hy, Array.getElem?_toList, Array.getElem?_append_left (by simpa using hj)]; simp
        cases this; exact d2) rfl
    refine ⟨_, _, c2, ρ', e1, ⟨_, _, _, e2, by rw [Nat.zero_add]; rfl, by omega, Nat.zero_le _, Nat.le_refl _, .inr rfl, (fun d hd => by cases hd), fun _ => .inr ⟨i.size, hs1, by simp [hlen], ?_⟩⟩, e3⟩
    show 0 - 0 + nc * i.size ≤ (#[] ++ new ++ Builtin.zeroCells zv.cells (nc - (0 + (m + 1)))).size
    simp only [Array.size_append, zeroCells_size]
    have : (nc - (0 + (m + 1))) * zv.cells.size = nc * i.size - (m + 1) * i.size := by
      rw [show zv.cells.size = i.size by omega, Nat.zero_add, Nat.sub_mul]
    have h5 : (m + 1) * i.size ≤ nc * i.size := Nat.mul_le_mul_right _ (by omega)
    rw [this, ← nl, hlen]
    simp; omega

theorem appOut_ok {x : V} {id : B} {g off len fin n c : Nat} {vs : List V} {h : H} {k : V → H → Bool} (hk : appOut elem id g off len fin i.size n vs h k = true) (hcap : ¬ len + n ≤ c) (hlen : vs.length = n * i.size)
    (hx : ∀ ρ xv, VRel ρ x xv → (∀ (P : Program) w, (Builtin.lenOf xv).run P w = .ok n w) ∧ ∀ w w0, HRel ρ h w w0 → ∃ new : Array Value, LRel ρ vs new.toList ∧ ∀ (P : Program), (Builtin.firstCells i.size n xv).run P w = .ok new w) :
    ∃ v h', (∀ k', appOut elem id g off len fin i.size n vs h k' = k' v h') ∧ KeepF h h' ∧ B.val h.next ≤ B.val h'.next ∧ AppSound P t t' ty elem (.l id g off len fin (some c)) x h v h' := by
  simp only [appOut] at hk
  obtain ⟨hb, hk⟩ := ifK_ok hk
  obtain ⟨old, o1, o2, o3⟩ := loadN_ok hk
  rw [o1] at hk
  obtain ⟨h', g1, g2, g3, g4⟩ := alloc_ok hk
  have hb' : len + n ≤ 1048576 := Nat.le_of_ble_eq_true hb
  refine ⟨.l h.next 0 0 (len + n) ((len + n) * i.size) none, h', fun k' => by simp only [appOut, hb, ifK_true, o1, g1, fN_eq]; rfl, g2, g3, fun ρ w w0 sv xv R hsv hxv => ?_⟩
  obtain ⟨L, ad, cc, l1, rfl, lc, l3, l4, l5, l6, l7⟩ := hsv
  have hcc : cc = c := l6 c rfl
  subst hcc
  obtain ⟨x1, x2⟩ := hx ρ xv hxv
  obtain ⟨new, n1, n2⟩ := x2 (dr w (w.drawn + 1)) w0 (R.dr _)
  obtain ⟨zv, z1, z2⟩ := zero_rel (ρ := ρ) (z := i.zero) (by omega)
  obtain ⟨xs, y1, y2, y3⟩ := o3 ρ (dr w (w.drawn + 1)) w0 L (R.dr _) l1 l3 l4
  have hold : ∃ oa : Array Value, LRel ρ old oa.toList ∧ (Builtin.firstCells i.size len (.slice (some ad) len cc)).run P (dr w (w.drawn + 1)) = .ok oa (dr w (w.drawn + 1)) := by
    rcases l5 with ⟨rfl, _⟩ | rfl
    · refine ⟨#[], ?_, ?_⟩
      · have : old = [] := by
          apply List.eq_nil_of_length_eq_zero
          rw [o2]; exact Nat.zero_mul _
        subst this; trivial
      · unfold Builtin.firstCells; rw [Nat.zero_mul]; rfl
    · exact ⟨xs.toArray, by simpa using y1, by unfold Builtin.firstCells; exact y2 P⟩
  obtain ⟨oa, oa1, oa2⟩ := hold
  obtain ⟨nc, c1, c2⟩ := run_append_out P w t t' ty elem e' i zv (some ad) len cc n xv oa new hu hu' hi z1 (x1 P w) hcap hb' hby oa2 (n2 P)
  have nl := n1.length
  have zl := z2.length
  have ol := oa1.length
  have o2' : old.length = len * i.size := o2
  simp at nl zl ol
  have happ : LRel ρ (app old vs) (oa ++ new).toList := by
    rw [app_eq]; simpa using oa1.append n1
  have hal : (app old vs).length = (len + n) * i.size := by rw [app_eq, List.length_append, o2', hlen, Nat.add_mul]
  have hal2 := happ.length
  simp at hal2
  obtain ⟨ρ', e1, e2, e3⟩ := g4 ρ (dr w (w.drawn + 1)) w0 (oa ++ new ++ Builtin.zeroCells zv.cells (nc - (len + n))) 0 _ (R.dr _) (by simp; omega) rfl
    (fun j v y hv hy => by
      obtain ⟨q, d1, d2⟩ := happ.get hv
      have hj : j < (oa ++ new).size := by have := (List.getElem?_eq_some_iff.1 d1).1; simpa using this
      have : some q = some y := by
        rw [← d1, ← hy, Array.getElem?_toList, Array.getElem?_append_left hj]
      cases this; exact d2) rfl
  refine ⟨_, _, c2, ρ', e1, ⟨_, _, _, e2, rfl, c1, Nat.zero_le _, by rw [hal]; exact Nat.le_refl _, .inr rfl, (fun d hd => by cases hd), fun _ => .inr ⟨i.size, hs1, by simp, ?_⟩⟩, e3⟩
  show 0 - 0 + nc * i.size ≤ (oa ++ new ++ Builtin.zeroCells zv.cells (nc - (len + n))).size
  simp only [Array.size_append, zeroCells_size]
  have h6 : (nc - (len + n)) * zv.cells.size = nc * i.size - (len + n) * i.size := by
    rw [show zv.cells.size = i.size by omega, Nat.sub_mul]
  have h5 : (len + n) * i.size ≤ nc * i.size := Nat.mul_le_mul_right _ (by omega)
  rw [h6]
  have h7 : (len + n) * i.size = len * i.size + n * i.size := Nat.add_mul _ _ _
  omega

theorem appIn_ok {x : V} {id : B} {g off len fin n c : Nat} {vs : List V} {h : H} {k : V → H → Bool} (hk : appIn id g off len fin c i.size n vs h k = true) (hcap : len + n ≤ c) (hlen : vs.length = n * i.size)
    (hx : ∀ ρ xv, VRel ρ x xv → (∀ (P : Program) w, (Builtin.lenOf xv).run P w = .ok n w) ∧ ∀ w w0, HRel ρ h w w0 → ∃ new : Array Value, LRel ρ vs new.toList ∧ ∀ (P : Program), (Builtin.firstCells i.size n xv).run P w = .ok new w) :
    ∃ v h', (∀ k', appIn id g off len fin c i.size n vs h k' = k' v h') ∧ KeepF h h' ∧ B.val h.next ≤ B.val h'.next ∧ AppSound P t t' ty elem (.l id g off len fin (some c)) x h v h' := by
  cases n with
  | zero =>
    refine ⟨.l id g off len fin (some c), h, fun k' => rfl, KeepF.refl h, Nat.le_refl _, fun ρ w w0 sv xv R hsv hxv => ?_⟩
    have hsv0 := hsv
    obtain ⟨L, ad, cc, l1, rfl, lc, l3, l4, l5, l6, l7⟩ := hsv
    have hcc : cc = c := l6 c rfl
    subst hcc
    obtain ⟨x1, x2⟩ := hx ρ xv hxv
    obtain ⟨new, n1, n2⟩ := x2 w w0 R
    have : new = #[] := by
      have := n1.length
      rw [hlen] at this
      apply Array.eq_empty_of_size_eq_zero
      simpa using this.symm
    subst this
    exact ⟨_, _, run_append_in P w w t t' ty elem e' i (some ad) len cc 0 xv #[] hu hu' hi (x1 P w) hcap (n2 P) (fun a ha => rfl) (fun _ => rfl), ρ, Ext.refl _ ρ, hsv0, R⟩
  | succ m =>
    simp only [appIn, natC_succ] at hk
    obtain ⟨h', g1, g2, g3, g4⟩ := store_ok hk
    refine ⟨.l id g off (len + (m + 1)) fin (some c), h', fun k' => by simp only [appIn, natC_succ, g1, fN_eq]; rfl, g2, by rw [g3]; exact Nat.le_refl _, fun ρ w w0 sv xv R hsv hxv => ?_⟩
    obtain ⟨L, ad, cc, l1, rfl, lc, l3, l4, l5, l6, l7⟩ := hsv
    have hcc : cc = c := l6 c rfl
    subst hcc
    obtain ⟨x1, x2⟩ := hx ρ xv hxv
    obtain ⟨new, n1, n2⟩ := x2 w w0 R
    have hadr : ad = ⟨L.b, off - L.s, none⟩ := by
      rcases l5 with ⟨h0, h1⟩ | h1
      · rcases h1 with h1 | h1
        · cases h1
        · cases h1; omega
      · exact h1
    subst hadr
    obtain ⟨s1, s2⟩ := g4 ρ w w0 L _ R l1 (by exact Nat.le_add_right_of_le l3) l4 n1
    have e5 : Nat.add off (Nat.mul len i.size) - L.s = off - L.s + len * i.size := by
      show off + len * i.size - L.s = _
      omega
    rw [e5] at s1 s2
    exact ⟨_, _, run_append_in P w _ t t' ty elem e' i (some ⟨L.b, off - L.s, none⟩) len cc (m + 1) xv new hu hu' hi (x1 P w) hcap (n2 P) (fun a ha => by cases ha; rw [add_none]; exact s1 P) (fun hn => by cases hn), ρ, Ext.refl _ ρ,
      ⟨L, _, _, l1, rfl, hcap, l3, l4, .inr rfl, (fun d hd => by cases hd; rfl), (fun hd => by cases hd)⟩, s2⟩

theorem appGrow_ok {x : V} {id : B} {g off len fin n : Nat} {vs : List V} {h : H} {k : V → H → Bool} (hk : appGrow elem id g off len fin i.size n vs h k = true) (hlen : vs.length = n * i.size)
    (hx : ∀ ρ xv, VRel ρ x xv → (∀ (P : Program) w, (Builtin.lenOf xv).run P w = .ok n w) ∧ ∀ w w0, HRel ρ h w w0 → ∃ new : Array Value, LRel ρ vs new.toList ∧ ∀ (P : Program), (Builtin.firstCells i.size n xv).run P w = .ok new w) :
    ∃ v h', (∀ k', appGrow elem id g off len fin i.size n vs h k' = k' v h') ∧ KeepF h h' ∧ B.val h.next ≤ B.val h'.next ∧ AppSound P t t' ty elem (.l id g off len fin none) x h v h' := by
  obtain ⟨next, floor, heap⟩ := h
  have e : ∀ k', appGrow elem id g off len fin i.size n vs ⟨next, floor, heap⟩ k' = optK (heap.get id) fun blk => blkK blk fun cur min sz cells el fr =>
    ifK (Nat.ble min g) fun _ => ifK (B.geB floor id) fun _ => ifK (Nat.beq (Nat.add off (Nat.mul len i.size)) sz) fun _ => ifK (Nat.beq fin sz) fun _ => ifK (Nat.ble 1 len) fun _ => ifK (Nat.ble (Nat.add len n) 1048576) fun _ => ifK (allOne vs) fun _ => ifK (frOk fr sz) fun _ => ifK (Nat.beq el elem) fun _ =>
       setList vs sz cells fun t => T.setK id ⟨Nat.succ cur, min, Nat.add sz (Nat.mul n i.size), t, el, fr⟩ heap fun heap => k' (.l id (Nat.succ cur) off (Nat.add len n) (Nat.add sz (Nat.mul n i.size)) none) ⟨next, floor, heap⟩ := by
    intro k'; simp only [appGrow, hK_mk, fN_eq]
  rw [e] at hk
  obtain ⟨⟨cur, min, sz, cells, bel, fr⟩, hb, hk⟩ := optK_ok hk
  simp only [blkK_mk] at hk
  obtain ⟨hmg, hk⟩ := ifK_ok hk
  obtain ⟨hfl, hk⟩ := ifK_ok hk
  obtain ⟨hsz, hk⟩ := ifK_ok hk
  obtain ⟨hfn, hk⟩ := ifK_ok hk
  obtain ⟨hl1, hk⟩ := ifK_ok hk
  obtain ⟨hbd, hk⟩ := ifK_ok hk
  obtain ⟨hone, hk⟩ := ifK_ok hk
  obtain ⟨hfr, hk⟩ := ifK_ok hk
  obtain ⟨hel, hk⟩ := ifK_ok hk
  obtain ⟨tr, h1, h2, h3⟩ := setList_ok _ _ _ _ hk
  obtain ⟨hp, h4, h5, h6⟩ := setK_ok id (⟨Nat.succ cur, min, Nat.add sz (Nat.mul n i.size), tr, bel, fr⟩ : Blk) heap
  refine ⟨.l id (cur + 1) off (len + n) (sz + n * i.size) none, ⟨next, floor, hp⟩, fun k' => by rw [e, hb, optK_some, blkK_mk, hmg, hfl, hsz, hfn, hl1, hbd, hone, hfr, hel]; simp only [ifK_true]; rw [h1, h4]; rfl, ⟨rfl, fun hf i hi => h6 i (fun e => by rw [e] at hi; exact absurd (geB_ok hfl) (Nat.not_le.2 hi))⟩, Nat.le_refl _, fun ρ w w0 sv xv R hsv hxv => ?_⟩
  have hsz' : off + len * i.size = sz := Nat.eq_of_beq_eq_true hsz
  have hfn' : fin = sz := Nat.eq_of_beq_eq_true hfn
  have hl1' : 1 ≤ len := Nat.le_of_ble_eq_true hl1
  have hbd' : len + n ≤ 1048576 := Nat.le_of_ble_eq_true hbd
  have hmg' : min ≤ g := Nat.le_of_ble_eq_true hmg
  have hel' : bel = elem := Nat.eq_of_beq_eq_true hel
  subst hfn'
  obtain ⟨L, ad, cc, l1, rfl, lc, l3, l4, l5, l6, l7⟩ := hsv
  have hadr : ad = ⟨L.b, off - L.s, none⟩ := by
    rcases l5 with ⟨h0, h1⟩ | h1
    · omega
    · exact h1
  subst hadr
  obtain ⟨q, q1, q2, q3⟩ : ∃ z, 1 ≤ z ∧ fin = off + len * z ∧ off - L.s + cc * z ≤ L.cs := by
    rcases l7 rfl with h0 | h0
    · omega
    · exact h0
  have hq : q = i.size := by
    have : len * q = len * i.size := by omega
    exact Nat.eq_of_mul_eq_mul_left (by omega) this
  subst hq
  obtain ⟨blk, a1, a2, a3, a4, a5, a6, a7⟩ := R.loc _ _ _ l1
  have hbe : blk = ⟨cur, min, fin, cells, bel, fr⟩ := by
    have : heap.get id = some blk := a1
    rw [hb] at this; exact (Option.some.inj this).symm
  subst hbe
  simp only at a2 a5 a6
  have hLe : L.e = fin := by omega
  obtain ⟨c, el, b1, b2, b3, b4⟩ := a7 hmg'
  obtain ⟨x1, x2⟩ := hx ρ xv hxv
  have hnone : ρ id (cur + 1) = none := by
    cases hr : ρ id (cur + 1) with
    | none => rfl
    | some M =>
      obtain ⟨blk2, d1, d2, _⟩ := R.loc _ _ _ hr
      have : heap.get id = some blk2 := d1
      rw [hb] at this
      cases this
      simp only at d2
      omega
  by_cases hc : len + n ≤ cc
  · -- in place
    obtain ⟨new, n1, n2⟩ := x2 w w0 R
    have nl := n1.length
    simp at nl
    have hcs : off - L.s + len * i.size + new.size ≤ c.size := by
      have : (len + n) * i.size ≤ cc * i.size := Nat.mul_le_mul_right _ hc
      rw [Nat.add_mul] at this
      omega
    have b1h := b1
    obtain ⟨b1e, fz, b1a, b1f⟩ := b1h
    obtain ⟨c', s1, s2, s3, s4⟩ := heap_setCells L.b new.toList (off - L.s + len * i.size) w c el fz b1a
    have hrun : (storeCells (Addr.add ⟨L.b, off - L.s, none⟩ (len * i.size)) new.toList).run P w = .ok () (w.setCells L.b (off - L.s + len * i.size) new.toList) := by
      rw [add_none]
      have := run_storeCells_cells (P := P) L.b (off - L.s + len * i.size) new.toList 0 w
        (fun j hj => by rw [b1.cell?]; simp at hj; rw [Array.getElem?_eq_getElem (by omega)]; rfl)
        (fun j hj => by
          have hj' : j < new.size := by simpa using hj
          have : w.frozen? ⟨L.b, off - L.s + len * i.size + 0 + j, none⟩ = false := b1.thawed hfr (by omega) (by omega)
          exact this)
        (allOne_ok hone n1)
      simpa using this
    have hle := Emb.put_le (⟨L.b, L.s, fin + n * i.size, L.cs, none⟩ : Loc) hnone
    refine ⟨_, _, run_append_in P w _ t t' ty elem e' i (some ⟨L.b, off - L.s, none⟩) len cc n xv new hu hu' hi (x1 P w) hc (n2 P) (fun a ha => by cases ha; exact hrun) (fun hn => by cases hn),
      ρ.put id (cur + 1) ⟨L.b, L.s, fin + n * i.size, L.cs, none⟩, Ext.put hnone (geB_ok hfl), ⟨_, _, _, Emb.put_same _ _ _ _, rfl, hc, l3, Nat.le_refl _, .inr rfl, (fun d hd => by cases hd), fun _ => .inr ⟨i.size, q1, by rw [Nat.add_mul]; omega, q3⟩⟩, ?_⟩
    have hcase : ∀ {j g' M}, ρ.put id (cur + 1) ⟨L.b, L.s, fin + n * i.size, L.cs, none⟩ j g' = some M → (j = id ∧ g' = cur + 1 ∧ M = ⟨L.b, L.s, fin + n * i.size, L.cs, none⟩) ∨ ρ j g' = some M := by
      intro j g' M hM
      by_cases e : j = id ∧ g' = cur + 1
      · left; obtain ⟨rfl, rfl⟩ := e; rw [Emb.put_same] at hM; exact ⟨rfl, rfl, (Option.some.inj hM).symm⟩
      · right; rwa [Emb.put_other _ _ _ _ e] at hM
    constructor
    · intro j g' M hM
      rcases hcase hM with ⟨e1, e2, e3⟩ | hN
      · subst e1; subst e2; subst e3
        refine ⟨_, h5, Nat.le_refl _, by rw [size_setCells]; exact a3, by show L.s ≤ fin + n * i.size; omega, Nat.le_refl _, fun _ => rfl, fun _ => ⟨c', el, ⟨b1e, fz, s1, by rw [s2]; exact b1f⟩, s2.trans b2, by show fin + n * i.size - L.s ≤ L.cs; omega, fun p p1 p2 => ?_⟩⟩
        simp only at p1 p2
        by_cases hpf : p < fin
        · obtain ⟨v, y, f1, f2, f3⟩ := b4 p p1 (by rw [hLe]; exact hpf)
          exact ⟨v, y, (h3 p (.inl hpf)).trans f1, (s3 (p - L.s) (.inl (sub_lt_of (by rw [hsz']; exact hpf) l3 p1))).trans f2, VRel.up hle _ _ f3⟩
        · have hv : vs[p - fin]? = some (vs[p - fin]'(sub_lt_two (by rw [hlen]; exact p2) (Nat.le_of_not_lt hpf))) := by simp
          obtain ⟨y, y1, y2⟩ := n1.get hv
          refine ⟨_, y, ?_, ?_, VRel.up hle _ _ y2⟩
          · have := h2 (p - fin) _ hv
            rwa [Nat.add_sub_of_le (Nat.le_of_not_lt hpf)] at this
          · have hlt : p - fin < vs.length := sub_lt_two (by rw [hlen]; exact p2) (Nat.le_of_not_lt hpf)
            have := s4 (p - fin) y y1 (Nat.lt_of_lt_of_le (Nat.add_lt_add_left hlt _) (by rw [nl]; exact hcs))
            rwa [arith3 hsz' l3 (Nat.le_of_not_lt hpf)] at this
      · obtain ⟨blk2, d1, d2, d3, d4, d5, d6, d7⟩ := R.loc _ _ _ hN
        by_cases hj : j = id
        · subst hj
          have : heap.get j = some blk2 := d1
          rw [hb] at this
          cases this
          simp only at d2 d5 d6 d7
          refine ⟨_, h5, by simp only; omega, by rw [size_setCells]; exact d3, d4, by show M.e ≤ fin + n * i.size; omega, fun hg => by simp only at hg; omega, fun hm => ?_⟩
          obtain ⟨c2, el2, f1, f2, f3, f4⟩ := d7 hm
          by_cases hbb : M.b = L.b
          · have hss := (R.sep _ _ _ _ _ _ hN l1 hbb).2
            obtain ⟨f1e, fz2, f1a, f1f⟩ := f1
            rw [hbb] at f1a
            rw [b1a] at f1a
            cases f1a
            refine ⟨c', el, ⟨b1e, fz, by rw [hbb]; exact s1, by rw [s2, hss]; exact b1f⟩, s2.trans f2, f3, fun p p1 p2 => ?_⟩
            obtain ⟨v, y, u1, u2, u3⟩ := f4 p p1 p2
            exact ⟨v, y, (h3 p (.inl (by omega))).trans u1, (s3 (p - M.s) (.inl (by rw [hss]; exact sub_lt_of (by rw [hsz']; exact Nat.lt_of_lt_of_le p2 d5) l3 (by rw [← hss]; exact p1)))).trans u2, VRel.up hle _ _ u3⟩
          · refine ⟨c2, el2, f1.congr (heap_setCells_other _ _ _ _ _ hbb), f2, f3, fun p p1 p2 => ?_⟩
            obtain ⟨v, y, u1, u2, u3⟩ := f4 p p1 p2
            exact ⟨v, y, (h3 p (.inl (by omega))).trans u1, u2, VRel.up hle _ _ u3⟩
        · have hbb : M.b ≠ L.b := fun hbb => hj (R.sep _ _ _ _ _ _ hN l1 hbb).1
          refine ⟨blk2, (h6 j hj).trans d1, d2, by rw [size_setCells]; exact d3, d4, d5, d6, fun hm => ?_⟩
          obtain ⟨c2, el2, f1, f2, f3, f4⟩ := d7 hm
          refine ⟨c2, el2, f1.congr (heap_setCells_other _ _ _ _ _ hbb), f2, f3, fun p p1 p2 => ?_⟩
          obtain ⟨v, y, u1, u2, u3⟩ := f4 p p1 p2
          exact ⟨v, y, u1, u2, VRel.up hle _ _ u3⟩
    · intro j g' M hM
      rcases hcase hM with ⟨e1, e2, e3⟩ | hN
      · rw [e1]; exact R.ids _ _ _ l1
      · exact R.ids _ _ _ hN
    · intro j g' M j' g'' M' hM hM' hbb
      rcases hcase hM with ⟨i1, i2, i3⟩ | hN <;> rcases hcase hM' with ⟨j1, j2, j3⟩ | hN'
      · exact ⟨i1.trans j1.symm, by rw [i3, j3]⟩
      · have := R.sep _ _ _ _ _ _ l1 hN' (by rw [← hbb, i3])
        exact ⟨i1.trans this.1, by rw [i3]; exact this.2⟩
      · have := R.sep _ _ _ _ _ _ hN l1 (by rw [hbb, j3])
        exact ⟨this.1.trans j1.symm, by rw [j3]; exact this.2⟩
      · exact R.sep _ _ _ _ _ _ hN hN' hbb
    · exact R.flo
    · intro b hb'
      rw [heap_setCells_other]
      · exact R.old b hb'
      · have := R.up _ _ _ l1 (geB_ok hfl)
        omega
    · intro j g' M hM hf
      rcases hcase hM with ⟨e1, e2, e3⟩ | hN
      · rw [e3]
        have := R.up _ _ _ l1 (by rw [← e1]; exact hf)
        exact this
      · exact R.up _ _ _ hN hf
    · rw [(os_setCells _ _ _ _).2.2]; exact R.tp
    · rw [(os_setCells _ _ _ _).1]; exact R.os
    · rw [(os_setCells _ _ _ _).2.1]; exact R.out
    · rw [size_setCells]; exact R.siz
    · refine R.mp.of hle fun j M blk2 hM h2' h3' => ?_
      rcases hcase hM with ⟨_, e2, _⟩ | hN
      · exact absurd e2 (by omega)
      · by_cases hj : j = id
        · subst hj
          have hb2 : hp.get j = some blk2 := h2'
          rw [h5] at hb2
          have hb3 := Option.some.inj hb2
          subst hb3
          have h3'' : min = cur + 1 + 7 := h3'
          omega
        · exact ⟨hN, (h6 j hj).symm.trans h2', heap_setCells_other _ _ _ _ _ fun hbb => hj (R.sep _ _ _ _ _ _ hN l1 hbb).1⟩
    · refine R.ito.of fun j g' M blk2 hM h2' hg h3' => ?_
      by_cases hj : j = id
      · subst hj
        have hb2 : hp.get j = some blk2 := h2'
        rw [h5] at hb2
        have hb3 := Option.some.inj hb2
        subst hb3
        have h3'' : min = cur + 1 + 9 := h3'
        omega
      · rcases hcase hM with ⟨e1, _, _⟩ | hN
        · exact absurd e1 hj
        · exact ⟨hN, (h6 j hj).symm.trans h2', heap_setCells_other _ _ _ _ _ fun hbb => hj (R.sep _ _ _ _ _ _ hN l1 hbb).1⟩
  · -- elsewhere
    have hcb : off - L.s + len * i.size ≤ c.size := by omega
    obtain ⟨new, n1, n2⟩ := x2 (dr w (w.drawn + 1)) w0 (R.dr _)
    have nl := n1.length
    simp at nl
    obtain ⟨zv, z1, z2⟩ := zero_rel (ρ := ρ) (z := i.zero) (by omega)
    have zl := z2.length
    simp at zl
    have hold : (Builtin.firstCells i.size len (.slice (some ⟨L.b, off - L.s, none⟩) len cc)).run P (dr w (w.drawn + 1)) = .ok ((List.range (len * i.size)).map fun j => c.getD (off - L.s + j) default).toArray (dr w (w.drawn + 1)) := by
      unfold Builtin.firstCells
      refine run_loadCells (dr w (w.drawn + 1)) ⟨L.b, off - L.s, none⟩ (len * i.size) (fun j => c.getD (off - L.s + j) default) (fun j hj => ?_)
      have b1' : HasC (dr w (w.drawn + 1)) L.b L.s c el bel fr := b1
      have hlt : off - L.s + j < c.size := Nat.lt_of_lt_of_le (Nat.add_lt_add_left hj _) hcb
      rw [add_none, b1'.cell?]
      simp [hlt]
    obtain ⟨nc, c1, c2⟩ := run_append_out P w t t' ty elem e' i zv (some ⟨L.b, off - L.s, none⟩) len cc n xv _ new hu hu' hi z1 (x1 P w) hc hbd' hby hold (n2 P)
    generalize hoa : ((List.range (len * i.size)).map fun j => c.getD (off - L.s + j) default).toArray = oa at c2
    have oas : oa.size = len * i.size := by rw [← hoa]; simp
    have oag : ∀ j, j < len * i.size → oa[j]? = c[off - L.s + j]? := by
      intro j hj
      have hlt : off - L.s + j < c.size := Nat.lt_of_lt_of_le (Nat.add_lt_add_left hj _) hcb
      rw [← hoa]
      simp [hj, hlt]
    have hcsz : (oa ++ new ++ Builtin.zeroCells zv.cells (nc - (len + n))).size = nc * i.size := by
      simp only [Array.size_append, zeroCells_size]
      have h6' : (nc - (len + n)) * zv.cells.size = nc * i.size - (len + n) * i.size := by
        rw [show zv.cells.size = i.size by omega, Nat.sub_mul]
      have h5' : (len + n) * i.size ≤ nc * i.size := Nat.mul_le_mul_right _ (by omega)
      have h7' : (len + n) * i.size = len * i.size + n * i.size := Nat.add_mul _ _ _
      omega
    have hncs : (len + n) * i.size ≤ nc * i.size := Nat.mul_le_mul_right _ (by omega)
    rw [Nat.add_mul] at hncs
    have hle := Emb.put_le (⟨w.heap.size, off, fin + n * i.size, nc * i.size, none⟩ : Loc) hnone
    refine ⟨_, _, c2, ρ.put id (cur + 1) ⟨w.heap.size, off, fin + n * i.size, nc * i.size, none⟩, Ext.put hnone (geB_ok hfl),
      ⟨_, _, _, Emb.put_same _ _ _ _, rfl, c1, Nat.le_refl _, Nat.le_refl _, .inr (by rw [Nat.sub_self]), (fun d hd => by cases hd), fun _ => .inr ⟨i.size, q1, by rw [Nat.add_mul]; omega, by simp⟩⟩, ?_⟩
    have hcase : ∀ {j g' M}, ρ.put id (cur + 1) ⟨w.heap.size, off, fin + n * i.size, nc * i.size, none⟩ j g' = some M → (j = id ∧ g' = cur + 1 ∧ M = ⟨w.heap.size, off, fin + n * i.size, nc * i.size, none⟩) ∨ ρ j g' = some M := by
      intro j g' M hM
      by_cases e : j = id ∧ g' = cur + 1
      · left; obtain ⟨rfl, rfl⟩ := e; rw [Emb.put_same] at hM; exact ⟨rfl, rfl, (Option.some.inj hM).symm⟩
      · right; rwa [Emb.put_other _ _ _ _ e] at hM
    constructor
    · intro j g' M hM
      rcases hcase hM with ⟨e1, e2, e3⟩ | hN
      · subst e1; subst e2; subst e3
        refine ⟨_, h5, Nat.le_refl _, by rw [alloc_size]; exact Nat.lt_succ_self _, by show off ≤ fin + n * i.size; omega, Nat.le_refl _, fun _ => rfl, fun _ => ⟨_, elem, ⟨hel'.symm, (0, 0), alloc_get_new _ _, FzOk.clean _ _ _⟩, hcsz, by show fin + n * i.size - off ≤ nc * i.size; omega, fun p p1 p2 => ?_⟩⟩
        simp only at p1 p2
        by_cases hpf : p < fin
        · obtain ⟨v, y, f1, f2, f3⟩ := b4 p (Nat.le_trans l3 p1) (by rw [hLe]; exact hpf)
          refine ⟨v, y, (h3 p (.inl hpf)).trans f1, ?_, VRel.up hle _ _ f3⟩
          have hlt : p - off < len * i.size := sub_lt_two (by rw [hsz']; exact hpf) p1
          rw [Array.append_assoc, Array.getElem?_append_left (by rw [oas]; exact hlt)]
          rw [oag _ hlt, arith4 l3 p1]
          exact f2
        · have hv : vs[p - fin]? = some (vs[p - fin]'(sub_lt_two (by rw [hlen]; exact p2) (Nat.le_of_not_lt hpf))) := by simp
          obtain ⟨y, y1, y2⟩ := n1.get hv
          refine ⟨_, y, ?_, ?_, VRel.up hle _ _ y2⟩
          · have := h2 (p - fin) _ hv
            rwa [Nat.add_sub_of_le (Nat.le_of_not_lt hpf)] at this
          · have hlt : p - fin < vs.length := sub_lt_two (by rw [hlen]; exact p2) (Nat.le_of_not_lt hpf)
            have hge := Nat.le_of_not_lt hpf
            have e8 : p - off - oa.size = p - fin := by rw [oas, ← hsz', Nat.sub_sub]
            have e9 : oa.size ≤ p - off := by rw [oas]; exact Nat.le_sub_of_add_le (by rw [Nat.add_comm, hsz']; exact hge)
            rw [Array.append_assoc, Array.getElem?_append_right e9]
            rw [e8, Array.getElem?_append_left (by rw [← nl]; exact hlt), ← Array.getElem?_toList]
            exact y1
      · obtain ⟨blk2, d1, d2, d3, d4, d5, d6, d7⟩ := R.loc _ _ _ hN
        by_cases hj : j = id
        · subst hj
          have : heap.get j = some blk2 := d1
          rw [hb] at this
          cases this
          simp only at d2 d5 d6 d7
          refine ⟨_, h5, by simp only; omega, by rw [alloc_size]; exact Nat.lt_succ_of_lt d3, d4, by show M.e ≤ fin + n * i.size; omega, fun hg => by simp only at hg; omega, fun hm => ?_⟩
          obtain ⟨c2, el2, f1, f2, f3, f4⟩ := d7 hm
          refine ⟨c2, el2, f1.congr (alloc_get_old _ _ d3), f2, f3, fun p p1 p2 => ?_⟩
          obtain ⟨v, y, u1, u2, u3⟩ := f4 p p1 p2
          exact ⟨v, y, (h3 p (.inl (by omega))).trans u1, u2, VRel.up hle _ _ u3⟩
        · refine ⟨blk2, (h6 j hj).trans d1, d2, by rw [alloc_size]; exact Nat.lt_succ_of_lt d3, d4, d5, d6, fun hm => ?_⟩
          obtain ⟨c2, el2, f1, f2, f3, f4⟩ := d7 hm
          refine ⟨c2, el2, f1.congr (alloc_get_old _ _ d3), f2, f3, fun p p1 p2 => ?_⟩
          obtain ⟨v, y, u1, u2, u3⟩ := f4 p p1 p2
          exact ⟨v, y, u1, u2, VRel.up hle _ _ u3⟩
    · intro j g' M hM
      rcases hcase hM with ⟨e1, e2, e3⟩ | hN
      · rw [e1]; exact R.ids _ _ _ l1
      · exact R.ids _ _ _ hN
    · intro j g' M j' g'' M' hM hM' hbb
      rcases hcase hM with ⟨i1, i2, i3⟩ | hN <;> rcases hcase hM' with ⟨j1, j2, j3⟩ | hN'
      · exact ⟨i1.trans j1.symm, by rw [i3, j3]⟩
      · obtain ⟨_, _, _, d3, _⟩ := R.loc _ _ _ hN'
        rw [← hbb, i3] at d3; exact absurd d3 (Nat.lt_irrefl _)
      · obtain ⟨_, _, _, d3, _⟩ := R.loc _ _ _ hN
        rw [hbb, j3] at d3; exact absurd d3 (Nat.lt_irrefl _)
      · exact R.sep _ _ _ _ _ _ hN hN' hbb
    · exact R.flo
    · intro b hb'
      rw [alloc_get_old (dr w (w.drawn + 1)) _ (Nat.lt_of_lt_of_le hb' R.siz)]
      exact R.old b hb'
    · intro j g' M hM hf
      rcases hcase hM with ⟨e1, e2, e3⟩ | hN
      · rw [e3]; exact R.siz
      · exact R.up _ _ _ hN hf
    · exact R.tp
    · exact R.os
    · exact R.out
    · rw [alloc_size]; exact Nat.le_succ_of_le R.siz
    · refine R.mp.of hle fun j M blk2 hM h2' h3' => ?_
      rcases hcase hM with ⟨_, e2, _⟩ | hN
      · exact absurd e2 (by omega)
      · by_cases hj : j = id
        · subst hj
          have hb2 : hp.get j = some blk2 := h2'
          rw [h5] at hb2
          have hb3 := Option.some.inj hb2
          subst hb3
          have h3'' : min = cur + 1 + 7 := h3'
          omega
        · exact ⟨hN, (h6 j hj).symm.trans h2', by obtain ⟨_, _, _, d3, _⟩ := R.loc _ _ _ hN; exact alloc_get_old (dr w (w.drawn + 1)) _ d3⟩
    · refine R.ito.of fun j g' M blk2 hM h2' hg h3' => ?_
      by_cases hj : j = id
      · subst hj
        have hb2 : hp.get j = some blk2 := h2'
        rw [h5] at hb2
        have hb3 := Option.some.inj hb2
        subst hb3
        have h3'' : min = cur + 1 + 9 := h3'
        omega
      · rcases hcase hM with ⟨e1, _, _⟩ | hN
        · exact absurd e1 hj
        · exact ⟨hN, (h6 j hj).symm.trans h2', by obtain ⟨_, _, _, d3, _⟩ := R.loc _ _ _ hN; exact alloc_get_old (dr w (w.drawn + 1)) _ d3⟩
end
end Go.Ev
