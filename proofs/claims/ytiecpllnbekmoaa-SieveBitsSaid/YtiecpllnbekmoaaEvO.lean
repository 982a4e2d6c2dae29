/-
  The state that a call begins in: all blocks that there are, under names of their own; what an argument's reading says of it.
-/
import Derived.Test.YtiecpllnbekmoaaEvN
import Derived.ProofKit
set_option linter.all false
namespace Go.Ev
open Go

/-! ### Names -/
noncomputable def nb : Nat → B
  | 0 => .h
  | n + 1 => Classical.choose (incK_ok (nb n))
theorem nb_val : ∀ n, B.val (nb n) = n + 1
  | 0 => rfl
  | n + 1 => by
    have := (Classical.choose_spec (incK_ok (nb n))).2
    show B.val (Classical.choose (incK_ok (nb n))) = _
    rw [this, nb_val n]
theorem nb_inj {m n : Nat} (h : nb m = nb n) : m = n := by
  have := congrArg B.val h
  rw [nb_val, nb_val] at this; omega

def csz (W : World) (n : Nat) : Nat := match W.heap[n]? with
  | some (.cells c _ _) => c.size
  | _ => 0
open Classical in
noncomputable def emb0 (W : World) : Emb := fun id g => if e : g = 0 ∧ ∃ n, n < W.heap.size ∧ id = nb n then some ⟨Classical.choose e.2, 0, csz W (Classical.choose e.2), csz W (Classical.choose e.2), none⟩ else none
theorem emb0_eq {W : World} {n : Nat} (h : n < W.heap.size) : emb0 W (nb n) 0 = some ⟨n, 0, csz W n, csz W n, none⟩ := by
  have e : (0 : Nat) = 0 ∧ ∃ m, m < W.heap.size ∧ nb n = nb m := ⟨rfl, n, h, rfl⟩
  unfold emb0
  rw [dif_pos e]
  have := nb_inj (Classical.choose_spec e.2).2
  rw [← this]
theorem emb0_inv {W : World} {id : B} {g : Nat} {L : Loc} (h : emb0 W id g = some L) : ∃ n, n < W.heap.size ∧ id = nb n ∧ g = 0 ∧ L = ⟨n, 0, csz W n, csz W n, none⟩ := by
  unfold emb0 at h
  split at h
  · rename_i e
    cases h
    exact ⟨_, (Classical.choose_spec e.2).1, (Classical.choose_spec e.2).2, e.1, rfl⟩
  · cases h

/-! ### Values -/
noncomputable def absV (W : World) : Value → V
  | .bool b => .b b
  | .int k n => .i k n
  | .string bs => .s bs.size (pk bs.data.toList)
  | .pointer none => .p0
  | .pointer (some ⟨b, off, none⟩) => open Classical in if b < W.heap.size then .p (nb b) 0 off (csz W b) else .u
  | .slice none 0 0 => .l0
  | .slice (some ⟨b, off, none⟩) (n + 1) cap => open Classical in if b < W.heap.size ∧ n + 1 ≤ cap then .l (nb b) 0 off (n + 1) (csz W b) (some cap) else .u
  | .slice (some _) 0 _ => open Classical in if 0 < W.heap.size then .l (nb 0) 0 0 0 0 none else .u
  | .nilFunc => .f0
  | .nilIface => .x0
  | .map none => .m0
  | _ => .u
theorem absV_rel (W : World) (x : Value) : VRel (emb0 W) (absV W x) x := by
  unfold absV
  split
  · rfl
  · rfl
  · rename_i bs
    refine ⟨bs, rfl, rfl, foldl_pk0 _⟩
  · rfl
  · split
    · rename_i h
      exact ⟨_, emb0_eq h, rfl, Nat.zero_le _, Nat.le_refl _⟩
    · trivial
  · rfl
  · split
    · rename_i h
      exact ⟨_, _, _, emb0_eq h.1, rfl, h.2, Nat.zero_le _, Nat.le_refl _, .inr rfl, (fun d hd => by cases hd; rfl), (fun hd => by cases hd)⟩
    · trivial
  · split
    · rename_i h
      exact ⟨_, _, _, emb0_eq h, rfl, Nat.zero_le _, Nat.zero_le _, Nat.zero_le _, .inl ⟨rfl, .inl rfl⟩, (fun d hd => by cases hd), (fun _ => .inl rfl)⟩
    · trivial
  · rfl
  · rfl
  · rfl
  · trivial

/-! ### Memory -/
theorem tree_of (vs : List V) : ∃ t : T V, ∀ (i : Nat) v, vs[i]? = some v → t.getN i = some v := by
  have key : ∀ n, ∃ t : T V, ∀ (i : Nat) v, i < n → vs[i]? = some v → t.getN i = some v := by
    intro n
    induction n with
    | zero => exact ⟨.o, fun i v h => absurd h (Nat.not_lt_zero i)⟩
    | succ n ih =>
      obtain ⟨t, ht⟩ := ih
      cases hv : vs[n]? with
      | none => exact ⟨t, fun i v hi h => by
          by_cases e : i = n
          · subst e; rw [hv] at h; cases h
          · exact ht i v (by omega) h⟩
      | some x =>
        obtain ⟨t', h1, h2, h3⟩ := setN_ok (n + 2) x t n (fun _ => true) (setN_fine (n + 2) n x t _ (Nat.lt_trans (Nat.lt_succ_self _) Nat.lt_two_pow_self) fun _ => rfl)
        refine ⟨t', fun i v hi h => ?_⟩
        by_cases e : i = n
        · subst e; rw [hv] at h; cases h; exact h2
        · rw [h3 i e]; exact ht i v (by omega) h
  obtain ⟨t, ht⟩ := key vs.length
  exact ⟨t, fun i v h => ht i v (List.getElem?_eq_some_iff.1 h).1 h⟩
/-- what is known of the n-th block -/
def BlkAt (W : World) (n : Nat) (b : Blk) : Prop := b.cur = 0 ∧ b.size = csz W n ∧ match W.heap[n]? with
  | some (.cells c el fz) => b.min = 0 ∧ b.el = el ∧ b.fr = fz.2 + 2 ∧ ∀ (i : Nat) x, c[i]? = some x → b.cells.getN i = some (absV W x)
  | _ => b.min = 1
theorem blk_at (W : World) (n : Nat) : ∃ b, BlkAt W n b := by
  unfold BlkAt csz
  cases h : W.heap[n]? with
  | none => exact ⟨⟨0, 1, 0, .o, 0, 0⟩, rfl, rfl, rfl⟩
  | some o =>
    cases o with
    | cells c el fz =>
      obtain ⟨t, ht⟩ := tree_of (c.toList.map (absV W))
      refine ⟨⟨0, 0, c.size, t, el, fz.2 + 2⟩, rfl, rfl, rfl, rfl, rfl, fun i x hx => ht i _ ?_⟩
      simp [hx]
    | _ => exact ⟨⟨0, 1, 0, .o, 0, 0⟩, rfl, rfl, rfl⟩
theorem heap_of (W : World) : ∀ k, ∃ hp : T Blk, ∀ n, n < k → ∃ b, hp.get (nb n) = some b ∧ BlkAt W n b := by
  intro k
  induction k with
  | zero => exact ⟨.o, fun n h => absurd h (Nat.not_lt_zero n)⟩
  | succ k ih =>
    obtain ⟨hp, h⟩ := ih
    obtain ⟨b, hb⟩ := blk_at W k
    obtain ⟨hp', s1, s2, s3⟩ := setK_ok (nb k) b hp
    refine ⟨hp', fun n hn => ?_⟩
    by_cases e : n = k
    · subst e; exact ⟨b, s2, hb⟩
    · obtain ⟨b', h1, h2⟩ := h n (by omega)
      exact ⟨b', (s3 _ fun he => e (nb_inj he)).trans h1, h2⟩

/-- THE STATE THAT A CALL BEGINS IN -/
theorem start (W : World) : ∃ h : H, HRel (emb0 W) h W W ∧ ∀ n, n < W.heap.size → B.val (nb n) < B.val h.next ∧ B.val (nb n) < B.val h.floor ∧ ∃ b, h.heap.get (nb n) = some b ∧ BlkAt W n b := by
  obtain ⟨hp, hh⟩ := heap_of W W.heap.size
  refine ⟨⟨nb W.heap.size, nb W.heap.size, hp⟩, ⟨?_, ?_, ?_, Nat.le_refl _, fun _ _ => rfl, ?_, rfl, rfl, rfl, Nat.le_refl _, ?_, ?_⟩, fun n hn => ⟨by show B.val (nb n) < B.val (nb _); rw [nb_val, nb_val]; omega, by show B.val (nb n) < B.val (nb _); rw [nb_val, nb_val]; omega, hh n hn⟩⟩
  · intro id g L hL
    obtain ⟨n, hn, rfl, rfl, rfl⟩ := emb0_inv hL
    obtain ⟨b, b1, b2, b3, b4⟩ := hh n hn
    refine ⟨b, b1, by omega, hn, Nat.zero_le _, by show csz W n ≤ b.size; omega, fun _ => b3.symm, fun hm => ?_⟩
    cases hx : W.heap[n]? with
    | none => rw [Array.getElem?_eq_none_iff] at hx; omega
    | some o =>
      rw [hx] at b4
      cases o with
      | cells c el fz =>
        obtain ⟨c1, c2, c3, c4⟩ := b4
        have hcs : csz W n = c.size := by unfold csz; rw [hx]
        refine ⟨c, el, ⟨c2.symm, fz, hx, ?_⟩, hcs.symm, by show csz W n - 0 ≤ csz W n; omega, fun i _ hi => ?_⟩
        · rw [c3]; exact .inr (Nat.le_refl _)
        · have hi' : i < c.size := by rw [← hcs]; exact hi
          have hxi : c[i]? = some (c[i]'hi') := by simp
          exact ⟨absV W c[i], c[i], c4 i _ hxi, by simpa using hxi, absV_rel W _⟩
      | _ => exact absurd hm (by rw [b4]; exact Nat.not_succ_le_zero 0)
  · intro id g L hL
    obtain ⟨n, hn, rfl, rfl, rfl⟩ := emb0_inv hL
    show B.val (nb n) < B.val (nb _)
    rw [nb_val, nb_val]; omega
  · intro id g L id' g' L' hL hL' hb
    obtain ⟨n, hn, rfl, rfl, rfl⟩ := emb0_inv hL
    obtain ⟨n', hn', rfl, rfl, rfl⟩ := emb0_inv hL'
    have : n = n' := hb
    subst this; exact ⟨rfl, rfl⟩
  · intro id g L hL hf
    obtain ⟨n, hn, rfl, rfl, rfl⟩ := emb0_inv hL
    have : B.val (nb W.heap.size) ≤ B.val (nb n) := hf
    rw [nb_val, nb_val] at this; omega
  · intro id L blk hL h2 h3
    obtain ⟨n, hn, rfl, _, rfl⟩ := emb0_inv hL
    obtain ⟨b, b1, b2, b3, b4⟩ := hh n hn
    have hbe : hp.get (nb n) = some blk := h2
    rw [b1] at hbe
    cases hbe
    have : blk.min ≤ 1 := by
      revert b4
      split
      · rintro ⟨e, _⟩; omega
      · intro e; omega
    omega
  · intro id g L blk ob hL h2 hg h3 h5
    obtain ⟨n, hn, rfl, _, rfl⟩ := emb0_inv hL
    cases h5

/-- where it begins -/
structure Start (W : World) (h : H) : Prop where
  rel : HRel (emb0 W) h W W
  blk : ∀ n, n < W.heap.size → B.val (nb n) < B.val h.next ∧ B.val (nb n) < B.val h.floor ∧ ∃ b, h.heap.get (nb n) = some b ∧ BlkAt W n b

theorem Start.cell {W : World} {h : H} (s : Start W h) {b off : Nat} {x : Value} (hx : W.cell? ⟨b, off, none⟩ = some x) : b < W.heap.size ∧ off < csz W b ∧ (∃ blk, h.heap.get (nb b) = some blk ∧ blk.min ≤ 0) ∧ Ev.cell h (nb b) 0 off = some (absV W x) := by
  simp only [World.cell?] at hx
  split at hx
  · rename_i c el fz hb
    have hlt : b < W.heap.size := (Array.getElem?_eq_some_iff.1 hb).1
    obtain ⟨_, _, blk, b1, b2, b3, b4⟩ := s.blk b hlt
    rw [hb] at b4
    obtain ⟨c1, c2, c3, c4⟩ := b4
    have hcs : csz W b = c.size := by unfold csz; rw [hb]
    refine ⟨hlt, by rw [hcs]; exact (Array.getElem?_eq_some_iff.1 hx).1, ⟨blk, b1, by omega⟩, ?_⟩
    unfold Ev.cell cellB
    rw [b1]
    show (if blk.min ≤ 0 then blk.cells.getN off else none) = _
    rw [if_pos (by omega)]
    exact c4 off x hx
  · cases hx

/-- a slice whose elements are one cell each -/
theorem Start.lst {W : World} {h : H} (s : Start W h) (h0 : 0 < W.heap.size) {a : Addr} {len cap : Nat} (hs : len ≠ 0 → a.spot = none) (hl : len ≤ cap) (xs : List Value) (hn : xs.length = len) (hx : ∀ i x, xs[i]? = some x → W.cell? ⟨a.block, a.off + i, none⟩ = some x) :
    Lst h (absV W (.slice (some a) len cap)) (xs.map (absV W)) := by
  obtain ⟨b, off, spot⟩ := a
  cases len with
  | zero =>
    have : xs = [] := List.eq_nil_of_length_eq_zero hn
    subst this
    have e : absV W (.slice (some ⟨b, off, spot⟩) 0 cap) = .l (nb 0) 0 0 0 0 none := by unfold absV; simp only [if_pos h0]
    rw [e]
    exact .inr ⟨nb 0, 0, 0, 0, none, rfl, Nat.le_refl _, (s.blk 0 h0).1, fun hne => absurd rfl hne, fun i v hv => by simp at hv⟩
  | succ n =>
    have hs' : spot = none := hs (by omega)
    subst hs'
    have hlast : ∃ x, xs[n]? = some x := ⟨xs[n]'(by omega), by simp⟩
    obtain ⟨x, hxl⟩ := hlast
    obtain ⟨d1, d2, d3, d4⟩ := s.cell (hx n x hxl)
    have e : absV W (.slice (some ⟨b, off, none⟩) (n + 1) cap) = .l (nb b) 0 off (n + 1) (csz W b) (some cap) := by unfold absV; simp only [if_pos (⟨d1, hl⟩ : b < W.heap.size ∧ n + 1 ≤ cap)]
    rw [e]
    refine .inr ⟨nb b, 0, off, csz W b, some cap, by rw [List.length_map, hn], by rw [List.length_map, hn]; have : off + n < csz W b := d2; omega, (s.blk b d1).1, fun _ => d3, fun i v hv => ?_⟩
    rw [List.getElem?_map] at hv
    cases hxi : xs[i]? with
    | none => rw [hxi] at hv; cases hv
    | some y =>
      rw [hxi] at hv
      cases hv
      exact (s.cell (hx i y hxi)).2.2.2

end Go.Ev
