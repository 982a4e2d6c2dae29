/- Entries: bytes that are read back. No condition. -/
import Derived.Test.YtkfliakkopidmaaNEnt6
set_option maxRecDepth 100000
set_option maxHeartbeats 8000000
set_option linter.all false
namespace Go.Proofs.Ytkfliakkopidmaa
open Go Go.Ev

theorem few_len {L : List Ent} (h : fewE L = true) : L.length ≤ 60 ∧ ∀ e ∈ L, e.key.length ≤ 20 ∧ e.val.length ≤ 40 := by
  unfold fewE at h
  rw [Bool.and_eq_true] at h
  refine ⟨of_decide_eq_true h.2, fun e he => ?_⟩
  have := (List.all_eq_true.1 h.1) e he
  unfold okE at this
  rw [Bool.and_eq_true] at this
  exact ⟨of_decide_eq_true this.1, of_decide_eq_true this.2⟩
theorem bytesE_len {e : Ent} : (bytesE e).length ≤ 200 := by
  unfold bytesE
  split
  · rename_i hi
    obtain ⟨k1, k2, k3, k4⟩ := isE_len hi
    have l1 := textB_len e.key (by omega)
    have l2 := textB_len e.val (by omega)
    have l3 := numB_len (n := e.seq.toNat) (by omega)
    rw [List.length_append]
    unfold tailB; rw [List.length_append]; split <;> simp <;> omega
  · simp
theorem textB_ne (l : List UInt8) : 1 ≤ (textB l).length := by unfold textB numB; simp
theorem numB_pos (n : Nat) : 1 ≤ (numB n).length := by unfold numB; simp
theorem tail_back {e : Ent} (hi : isE e = true) (more : List UInt8) : tailU e.key (tailB e ++ more) = (e, ((tailB e).length : Int), 0) := by
  obtain ⟨⟨s1, s2⟩, k1, k2, k3, k4⟩ := isE_iff.1 hi
  obtain ⟨key, seq, del, val⟩ := e
  simp only at s1 s2 k1 k2 k3 k4 ⊢
  have hq : ((seq.toNat : Nat) : Int) = seq := by omega
  cases del with
  | true =>
    obtain rfl := k4 rfl
    have e1 : tailB ⟨key, seq, true, []⟩ ++ more = numB seq.toNat ++ (1 :: more) := by unfold tailB; simp
    have e2 : ((tailB ⟨key, seq, true, []⟩).length : Int) = ((numB seq.toNat).length : Int) + 1 := by unfold tailB; simp
    have hn : takeN (numB seq.toNat ++ (1 :: more)) = ((seq.toNat : Int), ((numB seq.toNat).length : Int), 0) := takeN_numB (by omega) _
    rw [e1, tailU_5 hn (by simp) (by simp [List.getD]), hq, e2]
  | false =>
    have e1 : tailB ⟨key, seq, false, val⟩ ++ more = numB seq.toNat ++ (0 :: (textB val ++ more)) := by unfold tailB; simp
    have e2 : ((tailB ⟨key, seq, false, val⟩).length : Int) = ((numB seq.toNat).length : Int) + 1 + ((textB val).length : Int) := by unfold tailB; simp; omega
    have hn : takeN (numB seq.toNat ++ (0 :: (textB val ++ more))) = ((seq.toNat : Int), ((numB seq.toNat).length : Int), 0) := takeN_numB (by omega) _
    have hd : (numB seq.toNat ++ (0 :: (textB val ++ more))).drop ((numB seq.toNat).length + 1) = textB val ++ more := by
      rw [← List.drop_drop, List.drop_left]; rfl
    rw [e1, tailU_4 hn (by simp) (by simp [List.getD]) (by rw [hd]; exact takeT_textB (by omega)), hq, e2]
theorem take_back {e : Ent} (hi : isE e = true) (more : List UInt8) : takeE (bytesE e ++ more) = (e, ((bytesE e).length : Int), 0) := by
  obtain ⟨k1, k2, k3, k4⟩ := isE_len hi
  have hb : bytesE e = textB e.key ++ tailB e := by unfold bytesE; rw [hi]; rfl
  have hc : takeT (textB e.key ++ (tailB e ++ more)) = (e.key, ((textB e.key).length : Int), 0) := takeT_textB (by omega)
  have hd : (textB e.key ++ (tailB e ++ more)).drop (textB e.key).length = tailB e ++ more := List.drop_left
  rw [hb, List.append_assoc, takeE_4 hc (by rw [hd]; exact tail_back hi more), List.length_append]
  simp
theorem read_back {e : Ent} (hi : isE e = true) (more : List UInt8) : readE (bytesE e ++ more) = (e, ((bytesE e).length : Int), 0) := by
  have h := take_back hi more
  rw [readE_3 (by rw [h]) (by rw [h]; exact hi), h]
theorem bytes_inj {a b : Ent} (ha : isE a = true) (hb : isE b = true) (h : bytesE a = bytesE b) : a = b := by
  have h1 := take_back ha []
  have h2 := take_back hb []
  rw [h] at h1
  rw [h1] at h2
  exact (Prod.mk.inj h2).1
theorem tail_cut {e : Ent} (hi : isE e = true) {c : Nat} (hc : c < (tailB e).length) : (tailU e.key ((tailB e).take c)).2.2 = 12 := by
  obtain ⟨k1, k2, k3, k4⟩ := isE_len hi
  have hl := numB_len (n := e.seq.toNat) (by omega)
  rcases Nat.lt_or_ge c (numB e.seq.toNat).length with h1 | h1
  · have e1 : (tailB e).take c = (numB e.seq.toNat).take c := by unfold tailB; rw [List.take_append_of_le_length (by omega)]
    rw [e1, tailU_1 (takeN_cut (by omega) h1) (by omega)]
  · obtain ⟨d, rfl⟩ : ∃ d, c = (numB e.seq.toNat).length + d := ⟨c - (numB e.seq.toNat).length, by omega⟩
    have e1 : (tailB e).take ((numB e.seq.toNat).length + d) = numB e.seq.toNat ++ (if e.del then [1] else 0 :: textB e.val).take d := by
      unfold tailB; rw [List.take_append, Nat.add_sub_cancel_left, List.take_of_length_le (Nat.le_add_right _ _)]
    rw [e1]
    have hn := takeN_numB (n := e.seq.toNat) (by omega) ((if e.del then [1] else 0 :: textB e.val).take d)
    cases d with
    | zero => rw [tailU_2 hn (by simp)]
    | succ d =>
      cases hd : e.del with
      | true => unfold tailB at hc; rw [hd] at hc; simp at hc <;> omega
      | false =>
        rw [hd] at hn
        simp only [Bool.false_eq_true, if_false, List.take_succ_cons] at hn ⊢
        have hcd : d < (textB e.val).length := by unfold tailB at hc; rw [hd] at hc; simp at hc <;> omega
        have ht := takeT_cut (l := e.val) (by omega) hcd
        have hdr : (numB e.seq.toNat ++ (0 :: (textB e.val).take d)).drop ((numB e.seq.toNat).length + 1) = (textB e.val).take d := by
          rw [← List.drop_drop, List.drop_left]; try rfl
        rcases takeT_range ((textB e.val).take d) with (hv | hv) | ⟨v, j, hv, _⟩
        · rw [hv] at ht; cases ht
        · rw [tailU_3 hn (by simp) (by simp [List.getD]) (by rw [hdr]; exact hv) (by omega)]
        · rw [hv] at ht; cases ht
theorem read_cut {e : Ent} (hi : isE e = true) {c : Nat} (hc : c < (bytesE e).length) : (readE ((bytesE e).take c)).2.2 = 12 := by
  obtain ⟨k1, k2, k3, k4⟩ := isE_len hi
  have hb : bytesE e = textB e.key ++ tailB e := by unfold bytesE; rw [hi]; rfl
  rw [hb] at hc ⊢
  have key : (takeE ((textB e.key ++ tailB e).take c)).2.2 = 12 := by
    rcases Nat.lt_or_ge c (textB e.key).length with h1 | h1
    · have e1 : (textB e.key ++ tailB e).take c = (textB e.key).take c := List.take_append_of_le_length (by omega)
      have ht := takeT_cut (l := e.key) (by omega) h1
      rw [e1]
      rcases takeT_range ((textB e.key).take c) with (hv | hv) | ⟨v, j, hv, _⟩
      · rw [hv] at ht; cases ht
      · rw [takeE_1 hv (by omega)]
      · rw [hv] at ht; cases ht
    · obtain ⟨d, rfl⟩ : ∃ d, c = (textB e.key).length + d := ⟨c - (textB e.key).length, by omega⟩
      have e1 : (textB e.key ++ tailB e).take ((textB e.key).length + d) = textB e.key ++ (tailB e).take d := by
        rw [List.take_append, Nat.add_sub_cancel_left, List.take_of_length_le (Nat.le_add_right _ _)]
      rw [List.length_append] at hc
      have ht := tail_cut hi (c := d) (by omega)
      have hk : takeT (textB e.key ++ (tailB e).take d) = (e.key, ((textB e.key).length : Int), 0) := takeT_textB (by omega)
      have hdr : (textB e.key ++ (tailB e).take d).drop (textB e.key).length = (tailB e).take d := List.drop_left
      rw [e1, takeE_2 hk, hdr, ht]
      rfl
  rw [readE_1 (by rw [key]; decide)]; exact key
theorem bytes_pos {e : Ent} (hi : isE e = true) : 1 ≤ (bytesE e).length := by
  unfold bytesE; rw [hi]; simp only [if_true]; rw [List.length_append]; have := textB_ne e.key; omega
end Go.Proofs.Ytkfliakkopidmaa
