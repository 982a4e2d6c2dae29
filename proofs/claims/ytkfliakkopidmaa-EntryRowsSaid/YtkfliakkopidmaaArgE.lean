/- Arguments that are entries, writes, rows of entries, as the walk takes them. No condition. -/
import Derived.Test.YtkfliakkopidmaaArgS
import Derived.Test.YtkfliakkopidmaaEntM
set_option linter.all false
namespace Go.Ev
open Go Go.RowKit Go.WideShapes Go.ChangeShapes Go.ChangeAt Go.Deep

section
variable {H' : Type} {enc : TypeId × Value → H'} {P : Program}
theorem flat_of {W : World} {t : TypeId} {fs : Array Field} {fuel : Nat} {cs : List Value} {x : DataW H' × List MemPlace} (ut : P.underlying t = some (.struct fs)) (hd : DataW.trod enc P W 0 (fun _ => true) true fuel t cs = some x) :
    cs.length = P.cellsOf t ∧ ∀ (i : Nat) f, fs.toList[i]? = some f → ∃ n y, DataW.trod enc P W 0 (fun _ => true) true n f.type ((cs.drop f.offset).take (P.cellsOf f.type)) = some y := by
  cases fuel with
  | zero => simp [DataW.trod] at hd
  | succ n =>
    unfold DataW.trod at hd
    rw [ut] at hd
    simp only at hd
    split at hd
    · rename_i hl
      refine ⟨hl, fun i f hf => ?_⟩
      rw [Option.map_eq_some_iff] at hd
      obtain ⟨xs, hx, _⟩ := hd
      have := mapM_some_get hx i f hf
      have hlen := mapM_some_length hx
      have hi : i < xs.length := by rw [hlen]; exact (List.getElem?_eq_some_iff.1 hf).1
      exact ⟨n, xs[i], by rw [this]; simp⟩
    · cases hd
structure EntF (P : Program) (t : TypeId) (fs : Array Field) : Prop where
  ut : P.underlying t = some (.struct fs)
  sz : P.cellsOf t = 4
  f0 : ∃ f, fs.toList[0]? = some f ∧ f.offset = 0 ∧ P.cellsOf f.type = 1 ∧ P.underlying f.type = some .string
  f1 : ∃ f, fs.toList[1]? = some f ∧ f.offset = 1 ∧ P.cellsOf f.type = 1 ∧ P.underlying f.type = some (.int .i64)
  f2 : ∃ f, fs.toList[2]? = some f ∧ f.offset = 2 ∧ P.cellsOf f.type = 1 ∧ P.underlying f.type = some .bool
  f3 : ∃ f, fs.toList[3]? = some f ∧ f.offset = 3 ∧ P.cellsOf f.type = 1 ∧ P.underlying f.type = some .string
/-- an entry's cells -/
def entV (k : ByteArray) (n : Int) (d : Bool) (v : ByteArray) : List Value := [.string k, .int .i64 n, .bool d, .string v]
theorem ent_cells {W : World} {t : TypeId} {fs : Array Field} {fuel : Nat} {cs : List Value} {x : DataW H' × List MemPlace} (F : EntF P t fs) (hd : DataW.trod enc P W 0 (fun _ => true) true fuel t cs = some x) :
    ∃ k n d v, cs = entV k n d v ∧ k.size ≤ maxLen ∧ v.size ≤ maxLen ∧ (Lit.int .i64 n).wf = true := by
  obtain ⟨hl, hf⟩ := flat_of F.ut hd
  rw [F.sz] at hl
  obtain ⟨f0, g0, o0, c0, u0⟩ := F.f0
  obtain ⟨f1, g1, o1, c1, u1⟩ := F.f1
  obtain ⟨f2, g2, o2, c2, u2⟩ := F.f2
  obtain ⟨f3, g3, o3, c3, u3⟩ := F.f3
  match cs, hl with
  | [a, b, c, d], _ =>
    obtain ⟨_, _, h0⟩ := hf 0 f0 g0
    obtain ⟨_, _, h1⟩ := hf 1 f1 g1
    obtain ⟨_, _, h2⟩ := hf 2 f2 g2
    obtain ⟨_, _, h3⟩ := hf 3 f3 g3
    rw [o0, c0] at h0
    rw [o1, c1] at h1
    rw [o2, c2] at h2
    rw [o3, c3] at h3
    obtain ⟨k, e0, _, z0⟩ := DataW.trod_string u0 h0
    obtain ⟨n, e1, _, z1⟩ := DataW.trod_int u1 h1
    obtain ⟨q, e2, _⟩ := DataW.trod_bool u2 h2
    obtain ⟨v, e3, _, z3⟩ := DataW.trod_string u3 h3
    simp at e0 e1 e2 e3
    exact ⟨k, n, q, v, by rw [e0, e1, e2, e3]; rfl, z0, z3, z1⟩
/-- an argument that is an entry -/
theorem ent_of {W : World} {t : TypeId} {fs : Array Field} {v : Value} {d : DataW H'} {ps : List MemPlace} {base : Nat} (F : EntF P t fs) (hval : Value.okWide P W .any base t v) (hd : DataW.Trod enc P W 0 (fun _ => true) true t v d ps) :
    ∃ k n q u, v = .agg (entV k n q u).toArray ∧ k.size ≤ maxLen ∧ u.size ≤ maxLen ∧ (Lit.int .i64 n).wf = true := by
  unfold Value.okWide at hval
  rw [F.ut] at hval
  obtain ⟨cs, rfl, hsz, _⟩ := hval
  obtain ⟨fuel, hfu⟩ := hd
  have e : (Value.agg cs).cells.toList = cs.toList := rfl
  rw [e] at hfu
  obtain ⟨k, n, q, u, h1, h2, h3, h4⟩ := ent_cells F hfu
  exact ⟨k, n, q, u, by rw [← h1], h2, h3, h4⟩
theorem ent_rel {W : World} (k : ByteArray) (n : Int) (q : Bool) (u : ByteArray) : VRel (emb0 W) (.a [sv k.data.toList, .i .i64 n, .b q, sv u.data.toList]) (.agg (entV k n q u).toArray) := by
  refine ⟨_, rfl, ?_⟩
  exact ⟨by rw [← absV_str W]; exact absV_rel W _, rfl, rfl, by rw [← absV_str W]; exact absV_rel W _, trivial⟩
/-- a row of entries -/
theorem es_of {W : World} {h : H} (s : Start W h) (h0 : 0 < W.heap.size) {t e : TypeId} {fs : Array Field} {fuel : Nat} {cs : List Value} {x : DataW H' × List MemPlace} (ht : P.underlying t = some (.slice e)) (F : EntF P e fs)
    (hd : DataW.trod enc P W 0 (fun _ => true) true fuel t cs = some x) : ∃ sv L, cs = [sv] ∧ Es h (absV W sv) L ∧ L.length ≤ 9223372036854775807 ∧ ∀ e ∈ L, (e.key.length ≤ 9223372036854775807 ∧ e.val.length ≤ 9223372036854775807) ∧ -9223372036854775808 ≤ e.seq ∧ e.seq ≤ 9223372036854775807 := by
  rcases open_slice ht hd with ⟨rfl, _⟩ | ⟨a, len, cap, m, n, D, Pl, rfl, hb, hl, hm, hmm, _, hx⟩
  · exact ⟨_, [], rfl, .inl ⟨rfl, rfl⟩, by simp, fun e he => by cases he⟩
  simp only [if_true] at hmm
  rw [F.sz] at hx
  have hx' : ∀ i, i < len → ∃ k n q u, (∀ d y, (entV k n q u)[d]? = some y → W.cell? ⟨a.block, a.off + i * 4 + d, none⟩ = some y) ∧ (0 < len → a.spot = none) ∧ k.size ≤ maxLen ∧ u.size ≤ maxLen ∧ (Lit.int .i64 n).wf = true := by
    intro i hi
    obtain ⟨cs', h1, h2⟩ := hx i (by omega)
    obtain ⟨k, n, q, u, rfl, z1, z2, z3⟩ := ent_cells F h2
    obtain ⟨_, _, h3⟩ := World.cells?_some h1
    refine ⟨k, n, q, u, fun d y hy => ?_, fun _ => ?_, z1, z2, z3⟩
    · have hd : d < 4 := by have := (List.getElem?_eq_some_iff.1 hy).1; exact this
      have h4 := h3 d hd
      rw [hy] at h4
      have h5 := cell_add h4
      have e1 : (a.add (i * 4)).block = a.block := by unfold Addr.add; split <;> rfl
      have e2 : (a.add (i * 4)).off = a.off + i * 4 := by
        unfold Addr.add; split
        · rename_i hz; rw [hz]; rfl
        · rfl
      rw [e1, e2] at h5
      exact h5
    · have hlen : 0 < len := by omega
      obtain ⟨cs0, g1, g2⟩ := hx 0 (by omega)
      obtain ⟨k0, n0, q0, u0, rfl, _⟩ := ent_cells F g2
      obtain ⟨_, _, g3⟩ := World.cells?_some g1
      have g4 := g3 0 (by omega)
      have g5 := World.cell?_spot g4
      unfold Addr.add at g5
      simpa using g5
  obtain ⟨E, hE⟩ := choose_lt (α := ByteArray × Int × Bool × ByteArray) (p := fun i r => (∀ d y, (entV r.1 r.2.1 r.2.2.1 r.2.2.2)[d]? = some y → W.cell? ⟨a.block, a.off + i * 4 + d, none⟩ = some y) ∧ (0 < len → a.spot = none) ∧ r.1.size ≤ maxLen ∧ r.2.2.2.size ≤ maxLen ∧ (Lit.int .i64 r.2.1).wf = true) (fun i hi => by
    obtain ⟨k, n, q, u, h⟩ := hx' i hi
    exact ⟨(k, n, q, u), h⟩)
  let G : Nat → Ent := fun i => ⟨(E i).1.data.toList, (E i).2.1, (E i).2.2.1, (E i).2.2.2.data.toList⟩
  have hL : ((List.range len).map G).length = len := by simp
  refine ⟨_, (List.range len).map G, rfl, ?_, by rw [hL]; exact maxLen_le (by omega), fun e he => ?_⟩
  · obtain ⟨b, off, spot⟩ := a
    cases len with
    | zero =>
      have e : absV W (.slice (some ⟨b, off, spot⟩) 0 cap) = .l (nb 0) 0 0 0 0 none := by unfold absV; simp only [if_pos h0]
      rw [e]
      exact .inr ⟨nb 0, 0, 0, 0, none, rfl, by simp, (s.blk 0 h0).1, fun hne => absurd rfl hne, fun i v hv => by simp at hv⟩
    | succ n =>
      have hs' : spot = none := (hE 0 (by omega)).2.1 (by omega)
      subst hs'
      have hcell : ∀ i, i < n + 1 → ∀ d y, (entV (E i).1 (E i).2.1 (E i).2.2.1 (E i).2.2.2)[d]? = some y → b < W.heap.size ∧ off + i * 4 + d < csz W b ∧ (∃ blk, h.heap.get (nb b) = some blk ∧ blk.min ≤ 0) ∧ Ev.cell h (nb b) 0 (off + i * 4 + d) = some (absV W y) :=
        fun i hi d y hy => s.cell ((hE i hi).1 d y hy)
      obtain ⟨d1, d2, d3, d4⟩ := hcell n (by omega) 3 _ rfl
      have e : absV W (.slice (some ⟨b, off, none⟩) (n + 1) cap) = .l (nb b) 0 off (n + 1) (csz W b) (some cap) := by unfold absV; simp only [if_pos (⟨d1, hl⟩ : b < W.heap.size ∧ n + 1 ≤ cap)]
      rw [e]
      refine .inr ⟨nb b, 0, off, csz W b, some cap, by rw [hL], by rw [hL]; omega, (s.blk b d1).1, fun _ => d3, fun j v hv => ?_⟩
      have hj : j < (((List.range (n + 1)).map G).flatMap entC).length := (List.getElem?_eq_some_iff.1 hv).1
      rw [fm_len entC_len, hL] at hj
      obtain ⟨i, d, rfl, hd⟩ : ∃ i d, j = i * 4 + d ∧ d < 4 := ⟨j / 4, j % 4, by omega, by omega⟩
      have hi : i < n + 1 := by omega
      rw [fm_get entC_len (by rw [hL]; exact hi) hd] at hv
      have hG : ((List.range (n + 1)).map G).getD i default = G i := by simp [List.getD, hi]
      rw [hG] at hv
      rw [← Nat.add_assoc]
      match d, hd with
      | 0, _ => have := (hcell i hi 0 _ rfl).2.2.2; rw [this, absV_str]; exact hv
      | 1, _ => exact (hcell i hi 1 _ rfl).2.2.2.trans hv
      | 2, _ => exact (hcell i hi 2 _ rfl).2.2.2.trans hv
      | 3, _ => have := (hcell i hi 3 _ rfl).2.2.2; rw [this, absV_str]; exact hv
  · obtain ⟨i, hi, rfl⟩ := List.mem_map.1 he
    rw [List.mem_range] at hi
    obtain ⟨_, _, z1, z2, z3⟩ := hE i hi
    exact ⟨⟨str_len z1, str_len z2⟩, wf_i64 z3⟩
theorem swn_abs {W : World} {h : H} {x : Value} {L : List Ent} (a : Es h (absV W x) L) : SwN 4 (absV W x) := by
  have nol : ∀ v : V, Es h v L → v ≠ .u := by
    rintro _ (⟨rfl, _⟩ | ⟨id, g, off, fin, cap, rfl, _⟩) <;> intro e <;> cases e
  have np : ∀ id g off fin, ¬ Es h (.p id g off fin) L := by
    rintro id g off fin (⟨e, _⟩ | ⟨_, _, _, _, _, e, _⟩) <;> cases e
  revert a
  unfold absV
  split
  all_goals intro a
  all_goals first
    | exact .inl rfl
    | (exfalso; rcases a with ⟨e, _⟩ | ⟨_, _, _, _, _, e, _⟩ <;> cases e; done)
    | skip
  · split at a
    · exact absurd a (np _ _ _ _)
    · exact absurd rfl (nol _ a)
  · rename_i hh
    split at a
    · rename_i hb
      rw [if_pos hb]
      exact .inr ⟨_, _, _, _, _, _, rfl, hb.2⟩
    · exact absurd rfl (nol _ a)
  · split at a
    · rename_i hb
      rw [if_pos hb]
      exact .inr ⟨_, _, _, _, _, _, rfl, rfl⟩
    · exact absurd rfl (nol _ a)
structure WriF (P : Program) (t : TypeId) (fs : Array Field) : Prop where
  ut : P.underlying t = some (.struct fs)
  sz : P.cellsOf t = 3
  f0 : ∃ f, fs.toList[0]? = some f ∧ f.offset = 0 ∧ P.cellsOf f.type = 1 ∧ P.underlying f.type = some .string
  f1 : ∃ f, fs.toList[1]? = some f ∧ f.offset = 1 ∧ P.cellsOf f.type = 1 ∧ P.underlying f.type = some .bool
  f2 : ∃ f, fs.toList[2]? = some f ∧ f.offset = 2 ∧ P.cellsOf f.type = 1 ∧ P.underlying f.type = some .string
def wriV (k : ByteArray) (d : Bool) (v : ByteArray) : List Value := [.string k, .bool d, .string v]
theorem wri_cells {W : World} {t : TypeId} {fs : Array Field} {fuel : Nat} {cs : List Value} {x : DataW H' × List MemPlace} (F : WriF P t fs) (hd : DataW.trod enc P W 0 (fun _ => true) true fuel t cs = some x) :
    ∃ k d v, cs = wriV k d v ∧ k.size ≤ maxLen ∧ v.size ≤ maxLen := by
  obtain ⟨hl, hf⟩ := flat_of F.ut hd
  rw [F.sz] at hl
  obtain ⟨f0, g0, o0, c0, u0⟩ := F.f0
  obtain ⟨f1, g1, o1, c1, u1⟩ := F.f1
  obtain ⟨f2, g2, o2, c2, u2⟩ := F.f2
  match cs, hl with
  | [a, b, c], _ =>
    obtain ⟨_, _, h0⟩ := hf 0 f0 g0
    obtain ⟨_, _, h1⟩ := hf 1 f1 g1
    obtain ⟨_, _, h2⟩ := hf 2 f2 g2
    rw [o0, c0] at h0
    rw [o1, c1] at h1
    rw [o2, c2] at h2
    obtain ⟨k, e0, _, z0⟩ := DataW.trod_string u0 h0
    obtain ⟨q, e1, _⟩ := DataW.trod_bool u1 h1
    obtain ⟨v, e2, _, z2⟩ := DataW.trod_string u2 h2
    simp at e0 e1 e2
    exact ⟨k, q, v, by rw [e0, e1, e2]; rfl, z0, z2⟩
theorem wri_of {W : World} {t : TypeId} {fs : Array Field} {v : Value} {d : DataW H'} {ps : List MemPlace} {base : Nat} (F : WriF P t fs) (hval : Value.okWide P W .any base t v) (hd : DataW.Trod enc P W 0 (fun _ => true) true t v d ps) :
    ∃ k q u, v = .agg (wriV k q u).toArray ∧ k.size ≤ maxLen ∧ u.size ≤ maxLen := by
  unfold Value.okWide at hval
  rw [F.ut] at hval
  obtain ⟨cs, rfl, hsz, _⟩ := hval
  obtain ⟨fuel, hfu⟩ := hd
  have e : (Value.agg cs).cells.toList = cs.toList := rfl
  rw [e] at hfu
  obtain ⟨k, q, u, h1, h2, h3⟩ := wri_cells F hfu
  exact ⟨k, q, u, by rw [← h1], h2, h3⟩
theorem wri_rel {W : World} (k : ByteArray) (q : Bool) (u : ByteArray) : VRel (emb0 W) (.a [sv k.data.toList, .b q, sv u.data.toList]) (.agg (wriV k q u).toArray) := by
  refine ⟨_, rfl, ?_⟩
  exact ⟨by rw [← absV_str W]; exact absV_rel W _, rfl, by rw [← absV_str W]; exact absV_rel W _, trivial⟩
end
end Go.Ev
