/-
  make of a slice, and append into a slice whose capacity is known.
-/
import Derived.Test.YtiecpllnbekmoaaEvR
set_option linter.all false
namespace Go.Ev
open Go

theorem repL_one (z : V) : ∀ n, repL [z] n = List.replicate n z
  | 0 => rfl
  | n + 1 => by
    show z :: repL [z] n = _
    rw [repL_one z n, List.replicate_succ]

section
variable {P : Program} {S : Spec} {l : List CO} {t : F} {h : H} {K : F → H → Prop}
theorem mkSlice_eq {el a b : Nat} {z : V} {x y : O} {h' : H} {id : B} {kd kd' : IntKind} (e1 : oV x t = .i kd (a : Int)) (e2 : oV y t = .i kd' (b : Int)) (hab : a ≤ b) (hb : b ≤ 1048576)
    (ha : ∀ k : B → H → Bool, alloc el (List.replicate b z) h k = k id h') (cf : CallF) (k : V → H → Bool) : doMakeSlice el [z] x y cf t h k = k (.l id 0 0 a b (some b)) h' := by
  simp only [doMakeSlice, oE_eq, e1, e2, vI_i, natK_cast]
  have h1 : Nat.ble a b = true := by rw [Nat.ble_eq]; exact hab
  have h2 : Nat.ble b 1048576 = true := by rw [Nat.ble_eq]; exact hb
  have h3 : Nat.mul b [z].length = b := Nat.mul_one b
  rw [h1, ifK_true, h2, ifK_true, repL_one, ha, h3]
theorem Ops.mkSlice {n el a b : Nat} {bb : Bool} {z : V} {x y : O} {kd kd' : IntKind} (e1 : oV x t = .i kd (a : Int)) (e2 : oV y t = .i kd' (b : Int)) (hab : a ≤ b) (hb : b ≤ 1048576) (hf : B.val h.floor ≤ B.val h.next)
    (k : ∀ h1 id, Stay nowhere h h1 → id = h.next → B.val h1.next = B.val h.next + 1 → Own h1 id (List.replicate b z) → Ops P S l (put n (.l id 0 0 a b (some b)) t) h1 K) :
    Ops P S (.mk .none (.some (slOf n)) bb (.mk (doMakeSlice el [z] x y)) :: l) t h K := by
  obtain ⟨h1, a1, a2, a3, a4⟩ := alloc_own el (List.replicate b z) h (by rw [List.length_replicate]; omega) hf
  exact Ops.op (fun k => mkSlice_eq e1 e2 hab hb a1 _ k) (k h1 h.next a2 rfl a4 a3)

theorem append_in {id : B} {xs : List V} {len fin c el : Nat} {y : V} (o : Own h id xs) (hl : len + 1 ≤ c) (hj : len < fin) (hfit : len < 2 ^ 37) (h1 : oneV y = true) :
    ∃ h', (∀ k : V → H → Bool, append2 el 1 (.l id 0 0 len fin (some c)) 1 [y] h k = k (.l id 0 0 (len + 1) fin (some c)) h') ∧ Own h' id (xs.set len y) ∧ Stay (fun i => i = id) h h' := by
  obtain ⟨h', a1, a2, a3⟩ := store_own (fin := fin) o hj hfit h1
  refine ⟨h', fun k => ?_, a2, a3⟩
  have e1 : Nat.ble (Nat.add len 1) c = true := by rw [Nat.ble_eq]; exact hl
  have e2 : Nat.add 0 (Nat.mul len 1) = len := by show 0 + len * 1 = len; omega
  show boolK (Nat.ble (Nat.add len 1) c) (fun _ => appIn id 0 0 len fin c 1 1 [y] h k) (fun _ => appOut el id 0 0 len fin 1 1 [y] h k) = _
  rw [e1]
  show store h id 0 (Nat.add 0 (Nat.mul len 1)) fin [y] (fun h => fN (Nat.add len 1) fun l' => k (.l id 0 0 l' fin (some c)) h) = _
  rw [e2, a1, fN_eq]
/-- append(v, y) with its literal, where the room is there -/
theorem Ops.pushIn {n m el len fin c : Nat} {b b' : Bool} {s o : O} {z y : V} {id : B} {xs : List V} (e1 : oV s t = .l id 0 0 len fin (some c)) (e2 : oV o t = y) (hk : knownV y = true) (hc : cells y = [y]) (h1 : oneV y = true) (a : Own h id xs)
    (hf : B.val h.floor ≤ B.val h.next) (hl : len + 1 ≤ c) (hj : len < fin) (hfit : len < 2 ^ 37) (hm : m < 512) (e3 : ∀ u, oV s (put m u t) = .l id 0 0 len fin (some c))
    (k : ∀ h' u, Own h' id (xs.set len y) → Stay (fun i => i = id) h h' → Ops P S l (put n (.l id 0 0 (len + 1) fin (some c)) (put m u t)) h' K) :
    Ops P S (.mk .none (.some (slOf m)) b (.mk (doBuildSlice el 1 [z] [Pt.mk 0 1 o])) :: .mk .none (.some (slOf n)) b' (.mk (doAppend el 1 s (.t (slOf m)))) :: l) t h K := by
  refine Ops.lit1 e2 hk hc hf fun h1' id' s1 e n1 o1 => ?_
  obtain ⟨h', a1, a2, a3⟩ := append_in (el := el) (a.stay s1 fun h => h) hl hj hfit h1
  refine Ops.op (fun k => app1_eq (n := n) (e3 _) (by rw [oV_t, get_put _ _ _ _ hm hm, if_pos rfl]) o1.row a1 _ k) (k h' _ a2 ?_)
  exact ⟨a3.floor.trans s1.floor, Nat.le_trans s1.next a3.next, fun id' h1' h2 => (a3.get id' (Nat.lt_of_lt_of_le h1' s1.next) h2).trans (s1.get id' h1' fun h => h)⟩
end
/-- the front of an own block, as a slice -/
theorem Own.front {h : H} {id : B} {xs ys : List V} {fin : Nat} (o : Own h id (xs ++ ys)) (hf : xs.length ≤ fin) (cap : Option Nat) : Lst h (.l id 0 0 xs.length fin cap) xs := by
  have r := o.row
  obtain ⟨blk, h1, h2, h3, h4, h5, h6, h7⟩ := o
  refine .inr ⟨id, 0, 0, fin, cap, rfl, by omega, h6, fun _ => ⟨blk, h1, by omega⟩, fun i y hy => r.2 i y ?_⟩
  have : i < xs.length := by
    rcases Nat.lt_or_ge i xs.length with h | h
    · exact h
    · rw [List.getElem?_eq_none h] at hy; cases hy
  rw [List.getElem?_append_left this]
  exact hy
theorem own_idx {id : B} {len fin i : Nat} {cap : Option Nat} (h : i < len) (k : V → Bool) : idxV 1 (.l id 0 0 len fin cap) i k = k (.p id 0 i fin) := by
  show ifK (Nat.ble (i + 1) len) (fun _ => k (.p id 0 (0 + i * 1) fin)) = _
  have e1 : Nat.ble (i + 1) len = true := by rw [Nat.ble_eq]; exact h
  have e2 : 0 + i * 1 = i := by omega
  rw [e1, ifK_true, e2]
theorem Own.rdB {h : H} {id : B} {P : List Bool} {i fin : Nat} (o : Own h id (P.map V.b)) (hi : i < P.length) (hfin : i < fin) (k : V → Bool) : load1 h id 0 i fin k = k (.b (P.getD i false)) := by
  refine load1_cell ?_ hfin k
  have := o.row.2 i (.b (P.getD i false)) (by simp [List.getD, hi])
  rw [Nat.zero_add] at this
  exact this

end Go.Ev
