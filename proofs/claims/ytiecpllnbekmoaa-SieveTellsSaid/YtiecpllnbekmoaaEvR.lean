/-
  Literals of one element and appends in regions of the text's order; slices of ints.
-/
import Derived.Test.YtiecpllnbekmoaaEvQ
set_option linter.all false
namespace Go.Ev
open Go

section
variable {P : Program} {S : Spec} {l : List CO} {t : F} {h : H} {K : F → H → Prop}
/-- a literal of one element -/
theorem Ops.lit1 {n el : Nat} {b : Bool} {o : O} {y z : V} (e1 : oV o t = y) (h1 : knownV y = true) (h2 : cells y = [y]) (hf : B.val h.floor ≤ B.val h.next)
    (k : ∀ h' id, Stay nowhere h h' → id = h.next → B.val h'.next = B.val h.next + 1 → Own h' id [y] → Ops P S l (put n (.l id 0 0 1 1 (some 1)) t) h' K) : Ops P S (.mk .none (.some (slOf n)) b (.mk (doBuildSlice el 1 [z] [Pt.mk 0 1 o])) :: l) t h K := by
  obtain ⟨h', a1, a2, a3, a4⟩ := alloc_own el [y] h (by show 1 < 2 ^ 37; decide) hf
  refine Ops.op (v := .l h.next 0 0 1 1 (some 1)) (h1 := h') (fun k => ?_) (k _ h.next a2 rfl a4 a3)
  show oK o t (fillP 0 1 (fun t cs k => k cs) t [z] fun cs => alloc el cs h fun id h => k (.l id 0 0 1 cs.length (some 1)) h) = _
  rw [oK_eq, e1]
  unfold fillP
  rw [h1, ifK_true, h2]
  show alloc el [y] h (fun id h => k (.l id 0 0 1 1 (some 1)) h) = _
  rw [a1]
theorem Ops.app1 {n el : Nat} {b : Bool} {s x : O} {id : B} {y v : V} {xs : List V} (e1 : oV s t = v) (e2 : oV x t = .l id 0 0 1 1 (some 1)) (hr : Row h id 0 0 [y]) (hb : Buf h el 1 v xs) (hf : B.val h.floor ≤ B.val h.next) (h1 : oneV y = true) (hl : xs.length + 1 ≤ 1048576)
    (k : ∀ v' h', Buf h' el 1 v' (xs ++ [y]) → Stay (isOf v) h h' → (∀ i, isOf v' i → isOf v i ∨ B.val h.next ≤ B.val i) → Ops P S l (put n v' t) h' K) : Ops P S (.mk .none (.some (slOf n)) b (.mk (doAppend el 1 s x)) :: l) t h K := by
  obtain ⟨v', h', a1, a2, a3, a4⟩ := append_buf (vs := [y]) (n := 1) hb hf (Nat.le_refl _) rfl (by show Bool.rec false true (oneV y) = true; rw [h1]) hl
  exact Ops.op (fun k => app1_eq (n := n) e1 e2 hr a1 _ k) (k v' h' a2 a3 a4)
end

theorem Stay.past' {p : B → Prop} {a b c : H} (x : Stay nowhere a b) (y : Stay p b c) (h : ∀ id, p id → B.val a.next ≤ B.val id) : Stay nowhere a c :=
  ⟨y.floor.trans x.floor, Nat.le_trans x.next y.next, fun id h1 _ => (y.get id (Nat.lt_of_lt_of_le h1 x.next) fun hp => absurd (h id hp) (Nat.not_le.2 h1)).trans (x.get id h1 fun h => h)⟩

/-- a slice of ints -/
def Il (h : H) (v : V) (xs : List Int) : Prop := Lst h v (xs.map (V.i .i64))
theorem Il.grow {h h' : H} {v : V} {xs : List Int} (a : Il h v xs) (s : Stay nowhere h h') : Il h' v xs := Lst.grow a s
theorem Il.len {h0 : H} {v : V} {xs : List Int} (a : Il h0 v xs) (k : Nat → Bool) : lenV v k = k xs.length := by rw [Lst.len a]; simp
theorem Il.idx {h0 : H} {v : V} {xs : List Int} {i : Nat} (a : Il h0 v xs) (hi : i < xs.length) (k : V → Bool) : idxV 1 v i k = k (.p (lid v) (lg v) (loff v + i) (lfin v)) := Lst.idx a (by simpa using hi) k
theorem Il.rd {h : H} {v : V} {xs : List Int} {i : Nat} (a : Il h v xs) (hi : i < xs.length) (k : V → Bool) : load1 h (lid v) (lg v) (loff v + i) (lfin v) k = k (.i .i64 (xs.getD i 0)) :=
  load_lst a (by simp [hi]) k
/-- .. of the call's own, behind 'lo' -/
structure Ib (h : H) (lo el : Nat) (v : V) (xs : List Int) : Prop where
  buf : Buf h el 1 v (xs.map (V.i .i64))
  own : ∀ i, isOf v i → lo ≤ B.val i
theorem Ib.il {h : H} {lo el : Nat} {v : V} {xs : List Int} (a : Ib h lo el v xs) : Il h v xs := a.buf.lst
theorem Ib.nil (h : H) (lo el : Nat) : Ib h lo el .l0 [] := ⟨Buf.nil h el 1, fun i hi => by obtain ⟨_, _, _, _, _, e⟩ := hi; cases e⟩
theorem Ib.grow {h h' : H} {lo el : Nat} {v : V} {xs : List Int} (a : Ib h lo el v xs) (s : Stay nowhere h h') : Ib h' lo el v xs := ⟨a.buf.grow s, a.own⟩
/-- append(v, y) with its literal -/
theorem Ops.push {P : Program} {S : Spec} {l : List CO} {t : F} {h : H} {K : F → H → Prop} {n m el lo : Nat} {b b' : Bool} {s o : O} {z v : V} {y : Int} {xs : List Int} (hnm : n < 512) (hs : s ≠ .t (slOf m)) (e1 : oV s t = v) (e2 : oV o t = .i .i64 y) (a : Ib h lo el v xs) (hf : B.val h.floor ≤ B.val h.next) (hlo : lo ≤ B.val h.next) (hl : xs.length + 1 ≤ 1048576) (hm : m < 512) (e3 : ∀ u, oV s (put m u t) = v)
    (k : ∀ v' h' u, Ib h' lo el v' (xs ++ [y]) → Stay (isOf v) h h' → Ops P S l (put n v' (put m u t)) h' K) :
    Ops P S (.mk .none (.some (slOf m)) b (.mk (doBuildSlice el 1 [z] [Pt.mk 0 1 o])) :: .mk .none (.some (slOf n)) b' (.mk (doAppend el 1 s (.t (slOf m)))) :: l) t h K := by
  refine Ops.lit1 e2 rfl rfl hf fun h1 id s1 e n1 o1 => ?_
  refine Ops.app1 (e3 _) (by rw [oV_t, get_put _ _ _ _ hm hm, if_pos rfl]) o1.row (a.buf.grow s1) (s1.fl hf) rfl (by simpa using hl) fun v' h' b1 s2 hv => ?_
  refine k v' h' _ ⟨by simpa using b1, fun i hi => ?_⟩ ?_
  · rcases hv i hi with h2 | h2
    · exact a.own i h2
    · have := s1.next; omega
  · refine ⟨s2.floor.trans s1.floor, Nat.le_trans s1.next s2.next, fun id' h1' h2 => (s2.get id' (Nat.lt_of_lt_of_le h1' s1.next) h2).trans (s1.get id' h1' fun h => h)⟩

end Go.Ev
