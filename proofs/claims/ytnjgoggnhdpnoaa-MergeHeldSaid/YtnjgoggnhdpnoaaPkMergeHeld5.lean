/- Texts of ours, without what this claim does not use: NMg7 ArgE ArgR NMgL MergeHeld. No condition. -/
import Derived.Test.YtnjgoggnhdpnoaaPkMergeHeld4
import Derived.Test.YtnjgoggnhdpnoaaRows
import Derived.WalkKit
import Derived.ProofKit
import Derived.OpenShut
import Derived.ChangeMaps5
set_option maxRecDepth 100000
set_option maxHeartbeats 8000000
set_option linter.all false
namespace Go.Proofs.Ytnjgoggnhdpnoaa
open Go Go.Ev
theorem rep_cB (n : Nat) : repL [V.b false] n = cB n fun _ => false := by
  have go : ∀ (z : V) (n : Nat), repL [z] n = List.replicate n z := fun z n => by
    induction n with
    | zero => rfl
    | succ n ih =>
      have e : repL [z] (n + 1) = app [z] (repL [z] n) := rfl
      rw [e, app_eq, ih]; rfl
  rw [go]
  unfold cB
  rw [List.map_const', List.length_range]
theorem drop_cons {P l : List Ent} {a : Nat} {x : Ent} (h : P.drop a = x :: l) : a < P.length ∧ P.getD a default = x ∧ P.drop (a + 1) = l := by
  have hl := congrArg List.length h
  rw [List.length_drop, List.length_cons] at hl
  have ha : a < P.length := by omega
  rw [List.drop_eq_getElem_cons ha] at h
  injection h with h1 h2
  exact ⟨ha, by rw [List.getD_eq_getElem?_getD, List.getElem?_eq_getElem ha]; exact h1, h2⟩
def bitD (d : Int) (i : Nat) : Bool := decide (d / ((2 ^ i : Nat) : Int) % 2 = 1)
theorem mergeHeld_ok {h : H} {n : UInt8} {x : V} {S : List Int} {d : Int} {b : Bool} (hS : Kl h .u8 x S) (hl4 : S.length ≤ 9223372036854775807) (hw : ∀ n ∈ S, 0 ≤ n ∧ n ≤ 255) (hd0 : 0 ≤ d) (hd1 : d ≤ 4294967295) (hf : B.val h.floor ≤ B.val h.next) : FnOk Try.prog 6 [.i .u8 (n.toNat : Int), x, .i .u32 d, .b b] h fun y h' => y = .b true := by
  refine fn_go c6 (by intro hb; cases hb) (by simp) (by simp) fun Q hQ => ?_
  simp only [slotsF, Nat.reduceAdd]
  have hn0 := n.toNat_lt
  repeat' (first
    | refine St.h ?_
    | simp (disch := first | omega | (simp only [lnv]; omega)) only [wlk, ↓get_put', ↓reduceIte, seval]
    | (with_reducible (first | apply cd_split | apply gd_split)) <;> (intro hc; (try simp only [hcn] at hc); (try simp only [hc]); (try simp only [hcl] at hc); try omega))
  refine CL.pure known11 ?_
  repeat' (first
    | refine St.h ?_
    | simp (disch := first | omega | (simp only [lnv]; omega)) only [wlk, ↓get_put', ↓reduceIte, seval, kl_lnM hS]
    | (with_reducible (first | apply cd_split | apply gd_split)) <;> (intro hc; (try simp only [hcn] at hc); (try simp only [hc]); (try simp only [hcl] at hc); try omega))
  · subst hQ; rfl
  have hkk : ((n.toNat : Int) % 20) + 1 = ((n.toNat % 20 + 1 : Nat) : Int) := by omega
  obtain ⟨k, hk⟩ : ∃ k, k = n.toNat % 20 + 1 := ⟨_, rfl⟩
  rw [← hk] at hkk
  have hk1 : 1 ≤ k ∧ k ≤ 20 := by omega
  have hk2 : ((k : Int) + 1) = ((k + 1 : Nat) : Int) := by omega
  repeat' (first
    | refine St.h ?_
    | simp (disch := first | omega | (simp only [lnv]; omega)) only [wlk, ↓get_put', ↓reduceIte, seval, hkk, hk2, Int.toNat_natCast]
    | (with_reducible (first | apply cd_split | apply gd_split)) <;> (intro hc; (try simp only [hcn] at hc); (try simp only [hc]); (try simp only [hcl] at hc); try omega))
  refine AL.own (by rw [rep_cB, cB_len]; omega) hf fun h1 s1 n1 o1 => ?_
  rw [rep_cB] at o1
  have hf1 := s1.fl hf
  have l107 : V.s 1 107 = sv [107] := rfl
  repeat' (first
    | refine St.h ?_
    | simp (disch := first | omega | (simp only [lnv]; omega)) only [wlk, ↓get_put', ↓reduceIte, seval, hkk, hk2]
    | (with_reducible (first | apply cd_split | apply gd_split)) <;> (intro hc; (try simp only [hcn] at hc); (try simp only [hc]); (try simp only [hcl] at hc); try omega))
  refine Ok.lp (fun m t g => ∃ (i : Nat) (u : V), i = m ∧ i ≤ k ∧ get 1 t = x ∧ get 2 t = .i .u32 d ∧ get 3 t = .b b ∧ get 9 t = .i .i64 (k : Int) ∧ get 10 t = u ∧ get 11 t = .l h.next 0 0 (k + 1) (k + 1) (some (k + 1)) ∧ get 12 t = .l0 ∧ get 13 t = .i .i64 (i : Int) ∧ Stay nowhere h1 g ∧ Buf g 39 4 u (((List.range (k - i)).map fun q => hE (bitD d) (k - q)).flatMap entC) ∧ (∀ q, isOf u q → B.val h1.next ≤ B.val q)) k ?_ ?_
  · simp (disch := first | omega | (simp only [lnv]; omega)) only [wlk, ↓get_put', ↓reduceIte, seval]
    refine ⟨k, .l0, by omega, by omega, ?_⟩
    refine ⟨?_, ?_, ?_, ?_, ?_, ?_, ?_, ?_, Stay.refl _ _, by rw [Nat.sub_self]; exact Buf.nil _ _ _, fun q hq => by obtain ⟨_, _, _, _, _, e⟩ := hq; cases e⟩
    all_goals first | trivial | rfl
  rintro I hI m t g ⟨i, u, rfl, hi, f1, f2, f3, f9, f10, f11, f12, f13, st, bu, ou⟩
  have hfg := st.fl hf1
  by_cases hi0 : 1 ≤ i
  case pos =>
    have hp : (1 : Int) ≤ ((2 ^ i : Nat) : Int) := by have := Nat.one_le_two_pow (n := i); omega
    have q0 : 0 ≤ d / ((2 ^ i : Nat) : Int) := Int.ediv_nonneg hd0 (by omega)
    have q1 : d / ((2 ^ i : Nat) : Int) ≤ 4294967295 := Int.le_trans (Int.ediv_le_self _ hd0) hd1
    have q2 : (((d / ((2 ^ i : Nat) : Int)).toNat &&& 1 : Nat) : Int) = d / ((2 ^ i : Nat) : Int) % 2 := by rw [Nat.and_one_is_mod]; omega
    have q3 : decide (d / ((2 ^ i : Nat) : Int) % 2 = 1) = bitD d i := rfl
    generalize hqq : d / ((2 ^ i : Nat) : Int) = q at *
    have t1 : (1 : Int).toNat = 1 := rfl
    repeat' (first
      | refine St.h ?_
      | simp (disch := first | omega | (simp only [lnv]; omega)) only [wlk, ↓get_put', ↓reduceIte, seval, f1, f2, f3, f9, f10, f11, f12, f13, l107, hqq, t1, q2, q3]
      | (with_reducible (first | apply cd_split | apply gd_split)) <;> (intro hc; (try simp only [hcn] at hc); (try simp only [hc]); (try simp only [hcl] at hc); try omega))
    refine AL.own (by simp) hfg fun g4 t4 _ o4 => ?_
    have hfg4 := t4.fl hfg
    have ok4 : Ev.Own g4 g.next (entC (hE (bitD d) i)) := o4
    have fl := fm_len entC_len ((List.range (k - i)).map fun q => hE (bitD d) (k - q))
    rw [List.length_map, List.length_range] at fl
    repeat' (first
      | refine St.h ?_
      | simp (disch := first | omega | (simp only [lnv]; omega)) only [wlk, ↓get_put', ↓reduceIte, seval, f10]
      | (with_reducible (first | apply cd_split | apply gd_split)) <;> (intro hc; (try simp only [hcn] at hc); (try simp only [hc]); (try simp only [hcl] at hc); try omega))
    refine AP.buf (vs := entC (hE (bitD d) i)) (cnt := 1) (bu.grow t4) (new_row ok4.row rfl (Nat.le_refl _) (by omega) (by show 4 ≤ 4; omega)) hfg4 (by omega) rfl rfl (by rw [fl, entC_len]; omega) fun u' g5 b5 t5 ho tp => ?_
    have s5 : Stay nowhere h1 g5 := (st.trans t4).past' t5 fun q hq => ou q hq
    repeat' (first
      | refine St.h ?_
      | simp (disch := first | omega | (simp only [lnv]; omega)) only [wlk, ↓get_put', ↓reduceIte, seval, f1, f2, f3, f9, f10, f11, f12, f13]
      | (with_reducible (first | apply cd_split | apply gd_split)) <;> (intro hc; (try simp only [hcn] at hc); (try simp only [hc]); (try simp only [hcl] at hc); try omega))
    refine lp_next hI (i - 1) (by omega) ⟨i - 1, u', rfl, by omega, by simp (disch := first | omega | (simp only [lnv]; omega)) only [wlk, ↓get_put', ↓reduceIte, seval, f1], by simp (disch := first | omega | (simp only [lnv]; omega)) only [wlk, ↓get_put', ↓reduceIte, seval, f2], by simp (disch := first | omega | (simp only [lnv]; omega)) only [wlk, ↓get_put', ↓reduceIte, seval, f3], by simp (disch := first | omega | (simp only [lnv]; omega)) only [wlk, ↓get_put', ↓reduceIte, seval, f9], by simp (disch := first | omega | (simp only [lnv]; omega)) only [wlk, ↓get_put', ↓reduceIte, seval], by simp (disch := first | omega | (simp only [lnv]; omega)) only [wlk, ↓get_put', ↓reduceIte, seval, f11], by simp (disch := first | omega | (simp only [lnv]; omega)) only [wlk, ↓get_put', ↓reduceIte, seval, f12], ?_, s5, ?_, fun q hq => ?_⟩
    · simp (disch := first | omega | (simp only [lnv]; omega)) only [wlk, ↓get_put', ↓reduceIte, seval, f13]; congr 1; omega
    · have e1 : k - (i - 1) = (k - i) + 1 := by omega
      rw [e1, List.range_succ, List.map_append, List.flatMap_append]
      have e2 : ([k - i].map fun q => hE (bitD d) (k - q)).flatMap entC = entC (hE (bitD d) i) := by
        show entC (hE (bitD d) (k - (k - i))) ++ [] = _
        rw [List.append_nil, show k - (k - i) = i by omega]
      rw [e2]; exact b5
    · rcases ho q hq with h1 | h1
      · exact ou q h1
      · have := st.next; have := t4.next; omega
  obtain rfl : i = 0 := by omega
  rw [Nat.sub_zero, ← rowH_down] at bu
  have og := o1.stay st fun h => h
  repeat' (first
    | refine St.h ?_
    | simp (disch := first | omega | (simp only [lnv]; omega)) only [wlk, ↓get_put', ↓reduceIte, seval, f1, f2, f3, f9, f10, f11, f12, f13]
    | (with_reducible (first | apply cd_split | apply gd_split)) <;> (intro hc; (try simp only [hcn] at hc); (try simp only [hc]); (try simp only [hcl] at hc); try omega))
  refine ST.own (y := .b true) og rfl rfl (by omega) (by omega) fun g2 o2 t2 => ?_
  rw [cB_set, cB_congr (g := wS S k 0) (fun j _ => by
    unfold wS
    rw [List.take_zero, List.any_nil, Bool.or_false]
    by_cases e : j = k
    · rw [if_pos e, decide_eq_true e]
    · rw [if_neg e, decide_eq_false e])] at o2
  have oun : ∀ q, isOf u q → ¬ q = h.next := fun q hq e => by have := ou q hq; rw [e] at this; omega
  have bu2 := bu.stay t2 oun
  have st2 : Stay nowhere h g2 := (s1.trans st).past' t2 fun q hq => by rw [hq]; exact Nat.le_refl _
  have hf2 := st2.fl hf
  have nx2 : B.val h1.next ≤ B.val g2.next := by have := st.next; have := t2.next; omega
  have ult : ∀ q, isOf u q → B.val q < B.val g2.next := fun q hq => (bu2.own hq).2
  clear hI f13 bu st hfg og
  generalize hD : bitD d = D at *
  repeat' (first
    | refine St.h ?_
    | simp (disch := first | omega | (simp only [lnv]; omega)) only [wlk, ↓get_put', ↓reduceIte, seval, f1, f2, f3, f9, f10, f11, f12]
    | (with_reducible (first | apply cd_split | apply gd_split)) <;> (intro hc; (try simp only [hcn] at hc); (try simp only [hc]); (try simp only [hcl] at hc); try omega))
  refine Ok.lp (fun m t g => ∃ (i : Nat) (w : V), m = S.length - i ∧ i ≤ S.length ∧ get 1 t = x ∧ get 2 t = .i .u32 d ∧ get 3 t = .b b ∧ get 9 t = .i .i64 (k : Int) ∧ get 10 t = u ∧ get 11 t = .l h.next 0 0 (k + 1) (k + 1) (some (k + 1)) ∧ get 12 t = w ∧ get 14 t = .i .i64 (i : Int) ∧ Stay nowhere h g ∧ B.val g2.next ≤ B.val g.next ∧ Buf g 39 4 u ((rowH D (fun _ => true) k).flatMap entC) ∧ Vb g (B.val g2.next) 3 w (((S.take i).map (· % 25)).map (V.i .i64)) ∧ Ev.Own g h.next (cB (k + 1) (wS S k i))) S.length ?_ ?_
  · simp (disch := first | omega | (simp only [lnv]; omega)) only [wlk, ↓get_put', ↓reduceIte, seval]
    refine ⟨0, .l0, by omega, by omega, ?_⟩
    refine ⟨?_, ?_, ?_, ?_, ?_, ?_, ?_, ?_, st2, Nat.le_refl _, bu2, Vb.nil _ _ _, o2⟩
    all_goals first | trivial | rfl | (simp (disch := first | omega | (simp only [lnv]; omega)) only [wlk, ↓get_put', ↓reduceIte, seval, f1, f2, f3, f9, f10, f11, f12])
  rintro I hI m t2 g ⟨i, w, rfl, hi, f1, f2, f3, f9, f10, f11, f12, f14, st, nx, bu, vw, og⟩
  have hfg := st.fl hf
  have hSg : Kl g .u8 x S := Lst.grow hS st
  by_cases hil : i < S.length
  case pos =>
    have hc : S.getD i 0 ∈ S := by rw [List.getD_eq_getElem?_getD, List.getElem?_eq_getElem hil]; simp
    have hcb := hw _ hc
    have hws := fun j => wS_succ (k := k) (j := j) hil
    have htk : S.take (i + 1) = S.take i ++ [S.getD i 0] := by rw [List.take_succ]; congr 1; simp [List.getD, hil]
    generalize hcc : S.getD i 0 = c at *
    obtain ⟨q, hq⟩ : ∃ q : Nat, min (c % 25) (k : Int) = (q : Int) := ⟨(min (c % 25) (k : Int)).toNat, by omega⟩
    have hqk : q < k + 1 := by omega
    repeat' (first
      | refine St.h ?_
      | simp (disch := first | omega | (simp only [lnv]; omega)) only [wlk, ↓get_put', ↓reduceIte, seval, f1, f2, f3, f9, f10, f11, f12, f14, kl_lnM hSg, kl_ixM hSg hil, kl_ldM hSg hil, hcc, hq, Int.toNat_natCast]
      | (with_reducible (first | apply cd_split | apply gd_split)) <;> (intro hc; (try simp only [hcn] at hc); (try simp only [hc]); (try simp only [hcl] at hc); try omega))
    refine AL.push vw (fun u => by simp (disch := first | omega | (simp only [lnv]; omega)) only [wlk, ↓get_put', ↓reduceIte, seval, f12]) rfl rfl hfg nx (by rw [List.length_map, List.length_map, List.length_take]; omega) fun w' g3 u3 vw3 t3 ho tp => ?_
    have oww : ∀ q, isOf w q → ¬ q = h.next := fun q hq e => by have := vw.own q hq; rw [e] at this; omega
    have og3 := og.stay t3 fun h => oww _ h rfl
    have bu3 := bu.stay t3 fun q h1 h2 => by have := ult q h1; have := vw.own q h2; omega
    have st3 : Stay nowhere h g3 := st.past' t3 fun q hq => by have := vw.own q hq; omega
    repeat' (first
      | refine St.h ?_
      | simp (disch := first | omega | (simp only [lnv]; omega)) only [wlk, ↓get_put', ↓reduceIte, seval, f1, f2, f3, f9, f10, f11, f12, f14, hq, Int.toNat_natCast]
      | (with_reducible (first | apply cd_split | apply gd_split)) <;> (intro hc; (try simp only [hcn] at hc); (try simp only [hc]); (try simp only [hcl] at hc); try omega))
    refine ST.own (y := .b true) og3 rfl rfl (by omega) (by omega) fun g4 o4 t4 => ?_
    rw [cB_set, cB_congr (g := wS S k (i + 1)) (fun j _ => by
      rw [hws j, hq]
      by_cases e : j = q
      · rw [if_pos e, decide_eq_true (by omega), Bool.or_true]
      · rw [if_neg e, decide_eq_false (by omega), Bool.or_false])] at o4
    have st4 : Stay nowhere h g4 := st3.past' t4 fun q hq => by rw [hq]; exact Nat.le_refl _
    have bu4 := bu3.stay t4 oun
    have oww2 : ∀ q, isOf w' q → ¬ q = h.next := fun q hq e => by have := vw3.own q hq; rw [e] at this; omega
    have vw4 := vw3.stay t4 oww2
    have vw4 : Vb g4 (B.val g2.next) 3 w' (((S.take i).map (· % 25)).map (V.i .i64) ++ [c % 25].map (V.i .i64)) := vw4
    rw [← List.map_append] at vw4
    repeat' (first
      | refine St.h ?_
      | simp (disch := first | omega | (simp only [lnv]; omega)) only [wlk, ↓get_put', ↓reduceIte, seval, f1, f2, f3, f9, f10, f11, f12, f14]
      | (with_reducible (first | apply cd_split | apply gd_split)) <;> (intro hc; (try simp only [hcn] at hc); (try simp only [hc]); (try simp only [hcl] at hc); try omega))
    refine lp_next hI (S.length - (i + 1)) (by omega) ⟨i + 1, w', rfl, by omega, by simp (disch := first | omega | (simp only [lnv]; omega)) only [wlk, ↓get_put', ↓reduceIte, seval, f1], by simp (disch := first | omega | (simp only [lnv]; omega)) only [wlk, ↓get_put', ↓reduceIte, seval, f2], by simp (disch := first | omega | (simp only [lnv]; omega)) only [wlk, ↓get_put', ↓reduceIte, seval, f3], by simp (disch := first | omega | (simp only [lnv]; omega)) only [wlk, ↓get_put', ↓reduceIte, seval, f9], by simp (disch := first | omega | (simp only [lnv]; omega)) only [wlk, ↓get_put', ↓reduceIte, seval, f10], by simp (disch := first | omega | (simp only [lnv]; omega)) only [wlk, ↓get_put', ↓reduceIte, seval, f11], by simp (disch := first | omega | (simp only [lnv]; omega)) only [wlk, ↓get_put', ↓reduceIte, seval], by simp (disch := first | omega | (simp only [lnv]; omega)) only [wlk, ↓get_put', ↓reduceIte, seval, f14]; rfl, st4, by have := t3.next; have := t4.next; omega, bu4, by rw [htk, List.map_append]; exact vw4, o4⟩
  obtain rfl : i = S.length := by omega
  rw [List.take_length] at vw
  repeat' (first
    | refine St.h ?_
    | simp (disch := first | omega | (simp only [lnv]; omega)) only [wlk, ↓get_put', ↓reduceIte, seval, f1, f2, f3, f9, f10, f11, f12, f14, kl_lnM hSg]
    | (with_reducible (first | apply cd_split | apply gd_split)) <;> (intro hc; (try simp only [hcn] at hc); (try simp only [hc]); (try simp only [hcl] at hc); try omega))
  refine ST.own (y := .b false) og rfl rfl (by omega) (by omega) fun g3 o3 t3 => ?_
  generalize hww : wS S k S.length = W at *
  rw [cB_set, cB_congr (g := f4 W 1) (fun j _ => by
    unfold f4
    by_cases e : j = 0
    · rw [if_pos e, decide_eq_false (by omega), Bool.false_and]
    · rw [if_neg e, decide_eq_true (by omega), Bool.true_and])] at o3
  have oww : ∀ q, isOf w q → ¬ q = h.next := fun q hq e => by have := vw.own q hq; rw [e] at this; omega
  have st3 : Stay nowhere h g3 := st.past' t3 fun q hq => by rw [hq]; exact Nat.le_refl _
  have bu3 := bu.stay t3 oun
  have vw3 := vw.stay t3 oww
  have hf3 := st3.fl hf
  clear hI bu vw og st hfg hSg
  have hsl : ((S.map (· % 25)).length : Nat) ≤ 10 := by rw [List.length_map]; omega
  have rest : ∀ (T : F) (g : H) (i : Nat), get 3 T = .b b → get 9 T = .i .i64 (k : Int) → get 10 T = u → get 11 T = .l h.next 0 0 (k + 1) (k + 1) (some (k + 1)) → get 12 T = w → Stay nowhere h g → Buf g 39 4 u ((rowH D (fun _ => true) k).flatMap entC) → Vb g (B.val g2.next) 3 w ((S.map (· % 25)).map (V.i .i64)) → Ev.Own g h.next (cB (k + 1) (f4 W i)) → 1 ≤ i → anyB W D (i - 1) = false → ((b = false ∧ i = 1) ∨ (b = true ∧ i = k + 1) ∨ (b = true ∧ anyB W D i = true)) → Ok Try.prog 129 s6_60 T g (FnK [Rs.tmp (slOf 8)] Q) := by
    intro T g i f3 f9 f10 f11 f12 st bu vw og i1 hno hx
    have hfg := st.fl hf
    have hu : Es g u (rowH D (fun _ => true) k) := Ss.buf bu rfl entC_len (by omega)
    have hs : Kl g .i64 w (S.map (· % 25)) := vw.lst
    have hpk := pack_H (D := D) (S := S) (b := b) (k := k) (i := i) (by omega) i1 (by rw [hww]; exact hno) (by rw [hww]; exact hx)
    rw [hww] at hpk
    have hrl := rowH_len (D := D) (w := fun _ => true) k
    repeat' (first
      | refine St.h ?_
      | simp (disch := first | omega | (simp only [lnv]; omega)) only [wlk, ↓get_put', ↓reduceIte, seval, f3, f9, f10, f11, f12]
      | (with_reducible (first | apply cd_split | apply gd_split)) <;> (intro hc; (try simp only [hcn] at hc); (try simp only [hc]); (try simp only [hcl] at hc); try omega))
    refine CL.mk (mpack_ok (b := b) hu (swn_bufE bu) hs (by omega) (by omega) (fun n hn => by obtain ⟨m, hm, rfl⟩ := List.mem_map.1 hn; have := hw m hm; omega) hfg) ?_
    rintro p g1 ⟨ep, _, t1⟩
    rw [hpk] at ep
    have hf1 := t1.fl hfg
    have og1 := og.stay t1 fun h => h
    obtain ⟨P, hP⟩ : ∃ P, P = rowH D (f4 W i) k := ⟨_, rfl⟩
    rw [← hP] at ep
    have hpl := rowH_len (D := D) (w := f4 W i) k
    rw [← hP] at hpl
    repeat' (first
      | refine St.h ?_
      | simp (disch := first | omega | (simp only [lnv]; omega)) only [wlk, ↓get_put', ↓reduceIte, seval, f3, f9, f10, f11, f12]
      | (with_reducible (first | apply cd_split | apply gd_split)) <;> (intro hc; (try simp only [hcn] at hc); (try simp only [hc]); (try simp only [hcl] at hc); try omega))
    refine Ok.lp (fun m t g => ∃ (j a : Nat), j = m ∧ j ≤ k ∧ get 11 t = .l h.next 0 0 (k + 1) (k + 1) (some (k + 1)) ∧ get 17 t = p ∧ get 18 t = .i .i64 (a : Int) ∧ get 19 t = .i .i64 (j : Int) ∧ Stay nowhere g1 g ∧ P.drop a = rowH D (f4 W i) j ∧ a + (rowH D (f4 W i) j).length = P.length) k ?_ ?_
    · simp (disch := first | omega | (simp only [lnv]; omega)) only [wlk, ↓get_put', ↓reduceIte, seval]
      refine ⟨k, 0, by omega, by omega, ?_⟩
      refine ⟨?_, ?_, ?_, ?_, Stay.refl _ _, by rw [List.drop_zero]; exact hP, by rw [← hP]; omega⟩
      all_goals first | trivial | rfl | (simp (disch := first | omega | (simp only [lnv]; omega)) only [wlk, ↓get_put', ↓reduceIte, seval, f11])
    rintro I hI m t g2 ⟨j, a, rfl, hj, f11, f17, f18, f19, t2, hdr, hal⟩
    have ep2 := ep.grow t2
    have og2 := og1.stay t2 fun h => h
    have xcl := cB_len (k + 1) (f4 W i)
    by_cases hj0 : j = 0
    · have ha : a = P.length := by rw [hj0] at hal; exact hal
      repeat' (first
        | refine St.h ?_
        | simp (disch := first | omega | (simp only [lnv]; omega)) only [wlk, ↓get_put', ↓reduceIte, seval, f11, f17, f18, f19, ep2.ln, ha]
        | (with_reducible (first | apply cd_split | apply gd_split)) <;> (intro hc; (try simp only [hcn] at hc); (try simp only [hc]); (try simp only [hcl] at hc); try omega))
      subst hQ; rfl
    obtain ⟨j', hjj⟩ : ∃ j', j = j' + 1 := ⟨j - 1, by omega⟩
    have hat := cB_at (n := k + 1) (q := j) (f := f4 W i) (by omega)
    have l1 : ∀ N, L1 Try.prog h.next 0 j (k + 1) g2 N = N.go Try.prog (.b (f4 W i j)) g2 := fun N => by have := Row.l1 (P := Try.prog) (N := N) (fin := k + 1) og2.row (show j < (cB (k + 1) (f4 W i)).length by rw [xcl]; omega) (by omega); rwa [hat] at this
    have hj1 : ((j : Int) - 1) = ((j' : Nat) : Int) := by omega
    cases hfj : f4 W i j with
    | false =>
      rw [hjj, rowH_off (by rw [← hjj]; exact hfj)] at hdr hal
      rw [hfj] at l1
      repeat' (first
        | refine St.h ?_
        | simp (disch := first | omega | (simp only [lnv]; omega)) only [wlk, ↓get_put', ↓reduceIte, seval, f11, f17, f18, f19, l1, Int.toNat_natCast]
        | (with_reducible (first | apply cd_split | apply gd_split)) <;> (intro hc; (try simp only [hcn] at hc); (try simp only [hc]); (try simp only [hcl] at hc); try omega))
      refine lp_next hI j' (by omega) ⟨j', a, rfl, by omega, by simp (disch := first | omega | (simp only [lnv]; omega)) only [wlk, ↓get_put', ↓reduceIte, seval, f11], by simp (disch := first | omega | (simp only [lnv]; omega)) only [wlk, ↓get_put', ↓reduceIte, seval, f17], by simp (disch := first | omega | (simp only [lnv]; omega)) only [wlk, ↓get_put', ↓reduceIte, seval, f18], by simp (disch := first | omega | (simp only [lnv]; omega)) only [wlk, ↓get_put', ↓reduceIte, seval, f19, hj1], t2, hdr, hal⟩
    | true =>
      rw [hjj, rowH_on (by rw [← hjj]; exact hfj)] at hdr hal
      rw [hfj] at l1
      obtain ⟨h1, h2, h3⟩ := drop_cons hdr
      have hse : (P.getD a default).seq = (j : Int) := by rw [h2, hjj]; rfl
      rw [List.length_cons] at hal
      repeat' (first
        | refine St.h ?_
        | simp (disch := first | omega | (simp only [lnv]; omega)) only [wlk, ↓get_put', ↓reduceIte, seval, f11, f17, f18, f19, l1, ep2.ln, ep2.ix, ep2.l1, hse, Int.toNat_natCast]
        | (with_reducible (first | apply cd_split | apply gd_split)) <;> (intro hc; (try simp only [hcn] at hc); (try simp only [hc]); (try simp only [hcl] at hc); try omega))
      refine lp_next hI j' (by omega) ⟨j', a + 1, rfl, by omega, by simp (disch := first | omega | (simp only [lnv]; omega)) only [wlk, ↓get_put', ↓reduceIte, seval, f11], by simp (disch := first | omega | (simp only [lnv]; omega)) only [wlk, ↓get_put', ↓reduceIte, seval, f17], by simp (disch := first | omega | (simp only [lnv]; omega)) only [wlk, ↓get_put', ↓reduceIte, seval, f18]; rfl, by simp (disch := first | omega | (simp only [lnv]; omega)) only [wlk, ↓get_put', ↓reduceIte, seval, f19, hj1], t2, h3, by omega⟩
  have hno1 : anyB W D 0 = false := rfl
  repeat' (first
    | refine St.h ?_
    | simp (disch := first | omega | (simp only [lnv]; omega)) only [wlk, ↓get_put', ↓reduceIte, seval, f1, f2, f3, f9, f10, f11, f12, f14]
    | (with_reducible (first | apply cd_split | apply gd_split)) <;> (intro hc; (try simp only [hcn] at hc); (try simp only [hc]); (try simp only [hcl] at hc); try omega))
  refine Ok.lp (fun m t g => ∃ (i : Nat), m = k + 1 - i ∧ 1 ≤ i ∧ i ≤ k + 1 ∧ get 2 t = .i .u32 d ∧ get 3 t = .b b ∧ get 9 t = .i .i64 (k : Int) ∧ get 10 t = u ∧ get 11 t = .l h.next 0 0 (k + 1) (k + 1) (some (k + 1)) ∧ get 12 t = w ∧ get 16 t = .i .i64 (i : Int) ∧ Stay nowhere h g ∧ Buf g 39 4 u ((rowH D (fun _ => true) k).flatMap entC) ∧ Vb g (B.val g2.next) 3 w ((S.map (· % 25)).map (V.i .i64)) ∧ Ev.Own g h.next (cB (k + 1) (f4 W i)) ∧ anyB W D (i - 1) = false ∧ (i = 1 ∨ b = true)) k ?_ ?_
  · simp (disch := first | omega | (simp only [lnv]; omega)) only [wlk, ↓get_put', ↓reduceIte, seval]
    refine ⟨1, by omega, by omega, by omega, ?_⟩
    refine ⟨?_, ?_, ?_, ?_, ?_, ?_, ?_, st3, bu3, vw3, o3, rfl, .inl rfl⟩
    all_goals first | trivial | rfl | (simp (disch := first | omega | (simp only [lnv]; omega)) only [wlk, ↓get_put', ↓reduceIte, seval, f2, f3, f9, f10, f11, f12])
  clear f1 f2 f3 f9 f10 f11 f12 f14 bu3 vw3 o3
  rintro I hI m T g ⟨i, rfl, i1, ik, f2, f3, f9, f10, f11, f12, f16, st, bu, vw, og, hno, hb1⟩
  have hfg := st.fl hf
  by_cases hbi : b = true ∧ i ≤ k
  case neg =>
    have hx : (b = false ∧ i = 1) ∨ (b = true ∧ i = k + 1) ∨ (b = true ∧ anyB W D i = true) := by
      cases hb : b with
      | false => exact .inl ⟨rfl, hb1.resolve_right (by rw [hb]; simp)⟩
      | true => exact .inr (.inl ⟨rfl, by have : ¬ i ≤ k := fun h => hbi ⟨hb, h⟩; omega⟩)
    by_cases hik : i ≤ k
    · have hb : b = false := by cases hb : b with
        | false => rfl
        | true => exact absurd ⟨hb, hik⟩ hbi
      repeat' (first
        | refine rest _ _ i ?_ ?_ ?_ ?_ ?_ st bu vw og i1 hno hx
        | refine St.h ?_
        | simp (disch := first | omega | (simp only [lnv]; omega)) only [wlk, ↓get_put', ↓reduceIte, seval, f2, f3, f9, f10, f11, f12, f16, hb]
        | (with_reducible (first | apply cd_split | apply gd_split)) <;> (intro hc; (try simp only [hcn] at hc); (try simp only [hc]); (try simp only [hcl] at hc); try omega))
      all_goals (simp (disch := first | omega | (simp only [lnv]; omega)) only [wlk, ↓get_put', ↓reduceIte, seval, f2, f3, f9, f10, f11, f12, hb])
    · repeat' (first
        | refine rest _ _ i ?_ ?_ ?_ ?_ ?_ st bu vw og i1 hno hx
        | refine St.h ?_
        | simp (disch := first | omega | (simp only [lnv]; omega)) only [wlk, ↓get_put', ↓reduceIte, seval, f2, f3, f9, f10, f11, f12, f16]
        | (with_reducible (first | apply cd_split | apply gd_split)) <;> (intro hc; (try simp only [hcn] at hc); (try simp only [hc]); (try simp only [hcl] at hc); try omega))
      all_goals (simp (disch := first | omega | (simp only [lnv]; omega)) only [wlk, ↓get_put', ↓reduceIte, seval, f2, f3, f9, f10, f11, f12])
  obtain ⟨hb, hik⟩ := hbi
  have hat := cB_at (n := k + 1) (q := i) (f := f4 W i) (by omega)
  have hfi : f4 W i i = W i := by unfold f4; rw [decide_eq_true (Nat.le_refl _), Bool.true_and]
  rw [hfi] at hat
  have xcl := cB_len (k + 1) (f4 W i)
  have l1 : ∀ N, L1 Try.prog h.next 0 i (k + 1) g N = N.go Try.prog (.b (W i)) g := fun N => by have := Row.l1 (P := Try.prog) (N := N) (fin := k + 1) og.row (show i < (cB (k + 1) (f4 W i)).length by rw [xcl]; omega) (by omega); rwa [hat] at this
  obtain ⟨i', hii⟩ : ∃ i', i = i' + 1 := ⟨i - 1, by omega⟩
  have hano : anyB W D i = (W i && !D i) := by
    have h0 : anyB W D i' = false := by rw [hii] at hno; exact hno
    rw [hii]
    show (anyB W D i' || (W (i' + 1) && !D (i' + 1))) = _
    rw [h0, Bool.false_or]
  have i11 : i + 1 - 1 = i := rfl
  cases hWi : W i with
  | false =>
    rw [hWi] at l1 hano
    rw [cB_congr (g := f4 W (i + 1)) (fun j _ => by
      unfold f4
      by_cases e : j = i
      · rw [e, hWi, Bool.and_false, Bool.and_false]
      · congr 1; rw [decide_eq_decide]; omega)] at og
    repeat' (first
      | refine St.h ?_
      | simp (disch := first | omega | (simp only [lnv]; omega)) only [wlk, ↓get_put', ↓reduceIte, seval, f2, f3, f9, f10, f11, f12, f16, hb, l1, Int.toNat_natCast]
      | (with_reducible (first | apply cd_split | apply gd_split)) <;> (intro hc; (try simp only [hcn] at hc); (try simp only [hc]); (try simp only [hcl] at hc); try omega))
    refine lp_next hI (k + 1 - (i + 1)) (by omega) ⟨i + 1, rfl, by omega, by omega, by simp (disch := first | omega | (simp only [lnv]; omega)) only [wlk, ↓get_put', ↓reduceIte, seval, f2], by simp (disch := first | omega | (simp only [lnv]; omega)) only [wlk, ↓get_put', ↓reduceIte, seval, f3, hb], by simp (disch := first | omega | (simp only [lnv]; omega)) only [wlk, ↓get_put', ↓reduceIte, seval, f9], by simp (disch := first | omega | (simp only [lnv]; omega)) only [wlk, ↓get_put', ↓reduceIte, seval, f10], by simp (disch := first | omega | (simp only [lnv]; omega)) only [wlk, ↓get_put', ↓reduceIte, seval, f11], by simp (disch := first | omega | (simp only [lnv]; omega)) only [wlk, ↓get_put', ↓reduceIte, seval, f12], by simp (disch := first | omega | (simp only [lnv]; omega)) only [wlk, ↓get_put', ↓reduceIte, seval, f16]; rfl, st, bu, vw, og, by rw [i11, hano]; rfl, .inr hb⟩
  | true =>
  rw [hWi] at l1 hano
  have hp : (1 : Int) ≤ ((2 ^ i : Nat) : Int) := by have := Nat.one_le_two_pow (n := i); omega
  have q0 : 0 ≤ d / ((2 ^ i : Nat) : Int) := Int.ediv_nonneg hd0 (by omega)
  have q1 : d / ((2 ^ i : Nat) : Int) ≤ 4294967295 := Int.le_trans (Int.ediv_le_self _ hd0) hd1
  have q2 : (((d / ((2 ^ i : Nat) : Int)).toNat &&& 1 : Nat) : Int) = d / ((2 ^ i : Nat) : Int) % 2 := by rw [Nat.and_one_is_mod]; omega
  have q3 : decide (d / ((2 ^ i : Nat) : Int) % 2 = 1) = D i := by rw [← hD]; rfl
  generalize hqq : d / ((2 ^ i : Nat) : Int) = q at *
  have t1 : (1 : Int).toNat = 1 := rfl
  cases hDi : D i with
  | false =>
    rw [hDi] at q3 hano
    have q4 : q % 2 = 0 := by have := of_decide_eq_false q3; omega
    have hx : (b = false ∧ i = 1) ∨ (b = true ∧ i = k + 1) ∨ (b = true ∧ anyB W D i = true) := .inr (.inr ⟨hb, hano⟩)
    repeat' (first
      | refine rest _ _ i ?_ ?_ ?_ ?_ ?_ st bu vw og i1 hno hx
      | refine St.h ?_
      | simp (disch := first | omega | (simp only [lnv]; omega)) only [wlk, ↓get_put', ↓reduceIte, seval, f2, f3, f9, f10, f11, f12, f16, hb, hqq, t1, q2, q4, l1, Int.toNat_natCast]
      | (with_reducible (first | apply cd_split | apply gd_split)) <;> (intro hc; (try simp only [hcn] at hc); (try simp only [hc]); (try simp only [hcl] at hc); try omega))
    all_goals (simp (disch := first | omega | (simp only [lnv]; omega)) only [wlk, ↓get_put', ↓reduceIte, seval, f2, f3, f9, f10, f11, f12, hb])
  | true =>
    rw [hDi] at q3 hano
    have q4 : q % 2 = 1 := of_decide_eq_true q3
    repeat' (first
      | refine St.h ?_
      | simp (disch := first | omega | (simp only [lnv]; omega)) only [wlk, ↓get_put', ↓reduceIte, seval, f2, f3, f9, f10, f11, f12, f16, hb, hqq, t1, q2, q4, l1, Int.toNat_natCast]
      | (with_reducible (first | apply cd_split | apply gd_split)) <;> (intro hc; (try simp only [hcn] at hc); (try simp only [hc]); (try simp only [hcl] at hc); try omega))
    refine ST.own (y := .b false) og rfl rfl (by omega) (by omega) fun g4 o4 t4 => ?_
    rw [cB_set, cB_congr (g := f4 W (i + 1)) (fun j _ => by
      unfold f4
      by_cases e : j = i
      · rw [if_pos e, decide_eq_false (by omega), Bool.false_and]
      · rw [if_neg e]; congr 1; rw [decide_eq_decide]; omega)] at o4
    have st4 : Stay nowhere h g4 := st.past' t4 fun q hq => by rw [hq]; exact Nat.le_refl _
    repeat' (first
      | refine St.h ?_
      | simp (disch := first | omega | (simp only [lnv]; omega)) only [wlk, ↓get_put', ↓reduceIte, seval, f2, f3, f9, f10, f11, f12, f16, hb]
      | (with_reducible (first | apply cd_split | apply gd_split)) <;> (intro hc; (try simp only [hcn] at hc); (try simp only [hc]); (try simp only [hcl] at hc); try omega))
    refine lp_next hI (k + 1 - (i + 1)) (by omega) ⟨i + 1, rfl, by omega, by omega, by simp (disch := first | omega | (simp only [lnv]; omega)) only [wlk, ↓get_put', ↓reduceIte, seval, f2], by simp (disch := first | omega | (simp only [lnv]; omega)) only [wlk, ↓get_put', ↓reduceIte, seval, f3, hb], by simp (disch := first | omega | (simp only [lnv]; omega)) only [wlk, ↓get_put', ↓reduceIte, seval, f9], by simp (disch := first | omega | (simp only [lnv]; omega)) only [wlk, ↓get_put', ↓reduceIte, seval, f10], by simp (disch := first | omega | (simp only [lnv]; omega)) only [wlk, ↓get_put', ↓reduceIte, seval, f11], by simp (disch := first | omega | (simp only [lnv]; omega)) only [wlk, ↓get_put', ↓reduceIte, seval, f12], by simp (disch := first | omega | (simp only [lnv]; omega)) only [wlk, ↓get_put', ↓reduceIte, seval, f16]; rfl, st4, bu.stay t4 oun, vw.stay t4 oww, o4, by rw [i11, hano]; rfl, .inr hb⟩
end Go.Proofs.Ytnjgoggnhdpnoaa

set_option linter.all false
namespace Go.Ev
open Go Go.RowKit Go.WideShapes Go.ChangeShapes Go.ChangeAt Go.Deep
section
variable {H' : Type} {enc : TypeId × Value → H'} {P : Program}
structure EntF (P : Program) (t : TypeId) (fs : Array Field) : Prop where
  ut : P.underlying t = some (.struct fs)
  sz : P.cellsOf t = 4
  f0 : ∃ f, fs.toList[0]? = some f ∧ f.offset = 0 ∧ P.cellsOf f.type = 1 ∧ P.underlying f.type = some .string
  f1 : ∃ f, fs.toList[1]? = some f ∧ f.offset = 1 ∧ P.cellsOf f.type = 1 ∧ P.underlying f.type = some (.int .i64)
  f2 : ∃ f, fs.toList[2]? = some f ∧ f.offset = 2 ∧ P.cellsOf f.type = 1 ∧ P.underlying f.type = some .bool
  f3 : ∃ f, fs.toList[3]? = some f ∧ f.offset = 3 ∧ P.cellsOf f.type = 1 ∧ P.underlying f.type = some .string
structure WriF (P : Program) (t : TypeId) (fs : Array Field) : Prop where
  ut : P.underlying t = some (.struct fs)
  sz : P.cellsOf t = 3
  f0 : ∃ f, fs.toList[0]? = some f ∧ f.offset = 0 ∧ P.cellsOf f.type = 1 ∧ P.underlying f.type = some .string
  f1 : ∃ f, fs.toList[1]? = some f ∧ f.offset = 1 ∧ P.cellsOf f.type = 1 ∧ P.underlying f.type = some .bool
  f2 : ∃ f, fs.toList[2]? = some f ∧ f.offset = 2 ∧ P.cellsOf f.type = 1 ∧ P.underlying f.type = some .string
end
end Go.Ev

set_option linter.all false
namespace Go.Ev
open Go Go.RowKit Go.WideShapes Go.ChangeShapes Go.ChangeAt Go.Deep
section
variable {H' : Type} {enc : TypeId × Value → H'} {P : Program}
inductive Kd where
  | i (k : IntKind)
  | s
  | b
def Kd.ok (P : Program) (k : Kd) (t : TypeId) : Prop := match k with
  | .i k => P.underlying t = some (.int k)
  | .s => P.underlying t = some .string
  | .b => P.underlying t = some .bool
def FldOk (P : Program) (l : List Field) : Nat → List Kd → Prop
  | _, [] => True
  | n, k :: ks => (∃ f, l[n]? = some f ∧ f.offset = n ∧ P.cellsOf f.type = 1 ∧ k.ok P f.type) ∧ FldOk P l (n + 1) ks
/-- a struct whose fields are numbers, texts, bools -/
structure FlatF (P : Program) (t : TypeId) (fs : Array Field) (ks : List Kd) : Prop where
  ut : P.underlying t = some (.struct fs)
  sz : P.cellsOf t = ks.length
  fld : FldOk P fs.toList 0 ks
end
end Go.Ev

set_option linter.all false
namespace Go.Proofs.Ytnjgoggnhdpnoaa
open Go Go.Ev
theorem wf_all8 {S : List Int} (h : ∀ n ∈ S, (Lit.int .u8 n).wf = true) : ∀ n ∈ S, 0 ≤ n ∧ n ≤ 255 := fun n hn => by
  obtain ⟨c, rfl⟩ := u8_byte (h n hn)
  have := c.toNat_lt; omega
theorem mergeHeld_l {h : H} {n : UInt8} {x : V} {S : List Int} {d : Nat} {b : Bool} (hS : Kl h .u8 x S) (hl4 : S.length ≤ 9223372036854775807) (hw : ∀ n ∈ S, (Lit.int .u8 n).wf = true) (hd : d ≤ 4294967295) (hf : B.val h.floor ≤ B.val h.next) : FnOk Try.prog 6 [.i .u8 (n.toNat : Int), x, .i .u32 (d : Int), .b b] h fun y h' => y = .b true := mergeHeld_ok hS hl4 (wf_all8 hw) (by omega) (by omega) hf
end Go.Proofs.Ytnjgoggnhdpnoaa

namespace Go.Proofs.Ytnjgoggnhdpnoaa.mergeHeld
open Go Go.Ev Go.ChangeShapes Go.WideShapes Go.ChangeAt Go.RowKit Go.ChangeMaps
set_option linter.all false
theorem own : ownKnob Try.prog.godebug = none := by kernel_rfl
theorem laid : laidOutB Try.prog = true := by kernel_rfl
theorem heap_pos {W : World} (h : W.ShapedOpen Try.prog) : 0 < W.heap.size := by
  obtain ⟨o, _, h1, _⟩ := h.2 0 (of_decide_eq_true (by kernel_rfl)) (of_decide_eq_true (by kernel_rfl))
  exact (Array.getElem?_eq_some_iff.1 h1).1
set_option maxRecDepth 100000 in
theorem run {H : Type} {enc : TypeId × Value → H} (W : World) (base : Nat) (args : Array Value) (ds : List (DataW H)) (p : List MemPlace) (hval : ∀ (j : Nat) t v, Try.f6.params[j]? = some t → args[j]? = some v → Value.okWide Try.prog W .any base t v) (hopen : W.ShapedOpen Try.prog)
    (hA : DataW.TrodAll enc Try.prog W 0 (fun _ => true) true Try.f6.params.toList args.toList ds p) : Calls Try.prog 6 args W fun e w' => e = .returned (.bool true) ∧ Below W.heap.size W w' := by
  rw [Try.params6] at hA hval
  obtain ⟨v0, vs0, d0, ds0, p0, q0, hargs, rfl, rfl, h0, r0⟩ := trodAll_cons hA
  obtain ⟨v1, vs1, d1, ds1, p1, q1, rfl, rfl, rfl, h1, r1⟩ := trodAll_cons r0
  obtain ⟨v2, vs2, d2, ds2, p2, q2, rfl, rfl, rfl, h2, r2⟩ := trodAll_cons r1
  obtain ⟨v3, vs3, d3, ds3, p3, q3, rfl, rfl, rfl, h3, r3⟩ := trodAll_cons r2
  obtain ⟨rfl, rfl, rfl⟩ := trodAll_nil r3
  obtain rfl : args = #[v0, v1, v2, v3] := by cases args; simp_all
  obtain ⟨h, s1, s2⟩ := Go.Ev.start W
  have s : Go.Ev.Start W h := ⟨s1, s2⟩
  obtain ⟨a0, rfl, rfl, rfl, w0⟩ := open_int Try.underlying5 (hval 0 5 v0 rfl rfl) h0
  obtain ⟨n0, rfl⟩ := u8_byte w0
  obtain ⟨x1, y1, z1, rfl⟩ := okWide_slice Try.underlying45 (hval 1 45 v1 rfl rfl)
  obtain ⟨fu1, hfu1⟩ := h1
  obtain ⟨u1, L1, e1, m1, l1, k1⟩ := lk_of s (heap_pos hopen) Try.underlying45 (by kernel_rfl) Try.underlying5 hfu1
  obtain rfl := (List.cons.inj (show [Value.slice x1 y1 z1] = [u1] from e1)).1
  obtain ⟨a2, rfl, rfl, rfl, w2⟩ := open_int Try.underlying46 (hval 2 46 v2 rfl rfl) h2
  obtain ⟨n2, b2, rfl⟩ := u32_nat w2
  obtain ⟨a3, rfl, rfl, rfl⟩ := open_bool Try.underlying4 (hval 3 4 v3 rfl rfl) h3
  exact calls_true s (vs := [.i .u8 (n0.toNat : Int), absV W (.slice x1 y1 z1), .i .u32 (n2 : Int), .b a3]) ⟨rfl, absV_rel W _, rfl, rfl, trivial⟩ (mergeHeld_l m1 l1 k1 b2 s1.flo)
set_option maxRecDepth 100000 in
theorem lifted (os : Os) (started : os.Started) (H : Type) (enc : TypeId × Value → H) :
    ReturnsInHanded {} Try.checked os 6 .any (Rows.mergeHeldSpec.pre6 enc Try.prog Try.f6 Rows.mergeHeldRow.domain false) (Rows.mergeHeldSpec.post enc Try.prog Try.f6 false true false false) :=
  law_lifted (C := Try.checked) own started (by kernel_rfl) Try.func6
    (ChangeSpec.witness6 (enc := enc) (C := Try.checked) false ⟨#[], #[.int .u8 0, .slice none 0 0, .int .u32 0, .bool false], []⟩ 8 (by kernel_rfl) (by kernel_rfl) (by kernel_rfl) (by kernel_rfl))
    rfl (fun ds hd => by rw [Try.params6] at hd; match ds, hd with | [d1, d2, d3, d4], _ => rfl) laid (by kernel_rfl) (by kernel_rfl) Try.underlying4 (fun W base args ds p hv ho hA => run W base args ds p hv ho hA)
theorem over : Rows.mergeHeldRow.holds Try.pinned (OpenSpec.ofChange Rows.mergeHeldSpec) :=
  OpenClaim.holds_of_wide 6 Try.f6 rfl rfl rfl rfl rfl rfl rfl ⟨rfl, rfl, rfl, rfl, rfl⟩ rfl rfl rfl rfl rfl (by kernel_rfl) Try.func6 (by kernel_rfl)
    (of_decide_eq_true (by kernel_rfl)) (by unfold Func.isWrapper; first | (rw [if_pos (by decide +kernel)]; kernel_rfl) | (rw [if_neg (by decide +kernel)]; exact ⟨rfl, rfl⟩))
    (fun os started H enc _ => lifted os started H enc)
/-- THE STATEMENT -/
theorem proved : Rows.MergeHeldSaid :=
  over
end Go.Proofs.Ytnjgoggnhdpnoaa.mergeHeld
