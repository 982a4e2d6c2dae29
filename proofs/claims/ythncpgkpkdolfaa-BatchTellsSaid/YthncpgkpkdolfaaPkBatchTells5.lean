/- Texts of ours, without what this claim does not use: NBa3 BaN BaO BaSt Wy NBaS NBaT BaR JrBaP NBaU BaL BaP JrBld NBld Wh Knravelinlaw12. No condition. -/
import Derived.Test.YthncpgkpkdolfaaPkBatchTells4
import Derived.Test.YthncpgkpkdolfaaProg
import Derived.KernelRfl
import Derived.Test.YthncpgkpkdolfaaChecked
import Derived.Test.YthncpgkpkdolfaaRows
set_option maxRecDepth 100000
set_option maxHeartbeats 8000000
set_option linter.all false
namespace Go.Proofs.Ythncpgkpkdolfaa
open Go Go.Ev
theorem swn_buf12 {h : H} {el n : Nat} {v : V} {xs : List V} (b : Buf h el n v xs) : SwN n v := by
  rcases b with ⟨rfl, _⟩ | ⟨id, g, m, blk, rfl, h1, h2, _⟩
  · exact .inl rfl
  · exact .inr ⟨_, _, _, _, _, _, rfl, by show xs.length = 0 + m * n; omega⟩
theorem takeWs_len : ∀ {n : Nat} {s : List UInt8} {L : List Wri} {r : List UInt8}, takeWs n s = some (L, r) → L.length = n
  | 0, s, L, r, h => by cases h; rfl
  | n + 1, s, L, r, h => by
    have hm : ∀ {w : Wri} {o : Option (List Wri × List UInt8)}, (∀ p, o = some p → p.1.length = n) → (o.map fun r => (w :: r.1, r.2)) = some (L, r) → L.length = n + 1 := by
      intro w o ho h2
      cases o with
      | none => cases h2
      | some p =>
        have := ho p rfl
        cases h2
        simp [this]
    unfold takeWs at h
    split at h
    · cases h
    · split at h
      · exact hm (fun p hp => takeWs_len (L := p.1) (r := p.2) hp) h
      · split at h
        · cases h
        · exact hm (fun p hp => takeWs_len (L := p.1) (r := p.2) hp) h
theorem takeR_len {s : List UInt8} : ((takeR s).getD []).length ≤ 8 := by
  unfold takeR
  split
  · simp
  · rename_i hn
    cases e : takeWs (takeN s).1.toNat (s.drop (takeN s).2.1.toNat) with
    | none => simp
    | some p =>
      have := takeWs_len (L := p.1) (r := p.2) e
      simp; omega
def rdV (u : V) (r : Int × List Wri × Int × Int) : V := .tu [.i .i64 r.1, u, .i .i64 r.2.2.1, .i .i64 r.2.2.2]
theorem rread12_ok {h : H} {s : List UInt8} (hs : s.length ≤ 1000000) (hf : B.val h.floor ≤ B.val h.next) : FnOk Try.prog 12 [sv s] h fun y h' => ∃ u, y = rdV u (readR s) ∧ Ws h' u (readR s).2.1 ∧ (∀ q, isOf u q → B.val h.next ≤ B.val q) ∧ Stay nowhere h h' := by
  refine fn_go c12 (by intro hb; cases hb) (by simp) (by simp) fun Q hQ => ?_
  simp only [slotsF, Nat.reduceAdd]
  repeat' (first
    | refine St.h ?_
    | simp (disch := first | omega | (simp only [lnv]; omega)) only [wlk, ↓get_put', ↓reduceIte, seval]
    | (with_reducible (first | apply cd_split | apply gd_split)) <;> (intro hc; (try simp only [hcn] at hc); (try simp only [hc]); (try simp only [hcl] at hc); try omega))
  refine CL.stay (ropen_ok hs hf) fun h1 s1 => ?_
  have hf1 := s1.fl hf
  have hend : ∀ {g : H} (e : Int), Stay nowhere h g → readR s = (0, [], 0, e) → ∃ u, V.tu [.i .i64 0, .l0, .i .i64 0, .i .i64 e] = rdV u (readR s) ∧ Ws g u (readR s).2.1 ∧ (∀ q, isOf u q → B.val h.next ≤ B.val q) ∧ Stay nowhere h g := fun {g} e st e1 => by
    rw [e1]
    refine ⟨.l0, rfl, Ss.nil, ?_, st⟩
    rintro i ⟨_, _, _, _, _, e⟩; cases e
  rcases openB_range s with e | e | ⟨b, n, e, n1, n2⟩
  · have e0 : readR s = (0, [], 0, 12) := by unfold readR; rw [e]; rfl
    repeat' (first
      | refine St.h ?_
      | simp (disch := first | omega | (simp only [lnv]; omega)) only [wlk, ↓get_put', ↓reduceIte, seval, opn, e]
      | (with_reducible (first | apply cd_split | apply gd_split)) <;> (intro hc; (try simp only [hcn] at hc); (try simp only [hc]); (try simp only [hcl] at hc); try omega))
    subst hQ
    exact hend 12 s1 e0
  · have e0 : readR s = (0, [], 0, 13) := by unfold readR; rw [e]; rfl
    repeat' (first
      | refine St.h ?_
      | simp (disch := first | omega | (simp only [lnv]; omega)) only [wlk, ↓get_put', ↓reduceIte, seval, opn, e]
      | (with_reducible (first | apply cd_split | apply gd_split)) <;> (intro hc; (try simp only [hcn] at hc); (try simp only [hc]); (try simp only [hcl] at hc); try omega))
    subst hQ
    exact hend 13 s1 e0
  have hz0 : ((10 : Int) = 0) = False := eq_false (by decide)
  have hz1 : ((12 : Int) = 0) = False := eq_false (by decide)
  have hRd : readR s = if (takeN b).2.2 ≠ 0 then ((0 : Int), ([] : List Wri), (0 : Int), (10 : Int)) else match takeR (b.drop (takeN b).2.1.toNat) with
    | none => (0, [], 0, 10)
    | some l => if (bytB (takeN b).1 l).2 = 0 ∧ (bytB (takeN b).1 l).1 = s.take n then ((takeN b).1, l, (n : Int), 0) else (0, [], 0, 10) := by
    unfold readR; rw [e]; rfl
  rcases takeN_range b with (e1 | e1) | ⟨q, k, e1, q1, k1, k2, k3⟩
  · have e0 : readR s = (0, [], 0, 10) := by rw [hRd, e1]; rfl
    repeat' (first
      | refine St.h ?_
      | simp (disch := first | omega | (simp only [lnv]; omega)) only [wlk, ↓get_put', ↓reduceIte, seval, opn, e]
      | (with_reducible (first | apply cd_split | apply gd_split)) <;> (intro hc; (try simp only [hcn] at hc); (try simp only [hc]); (try simp only [hcl] at hc); try omega))
    refine CL.pure (rtakeNum_ok (by omega)) ?_
    repeat' (first
      | refine St.h ?_
      | simp (disch := first | omega | (simp only [lnv]; omega)) only [wlk, ↓get_put', ↓reduceIte, seval, e1, tri, hz0]
      | (with_reducible (first | apply cd_split | apply gd_split)) <;> (intro hc; (try simp only [hcn] at hc); (try simp only [hc]); (try simp only [hcl] at hc); try omega))
    subst hQ
    exact hend 10 s1 e0
  · have e0 : readR s = (0, [], 0, 10) := by rw [hRd, e1]; rfl
    repeat' (first
      | refine St.h ?_
      | simp (disch := first | omega | (simp only [lnv]; omega)) only [wlk, ↓get_put', ↓reduceIte, seval, opn, e]
      | (with_reducible (first | apply cd_split | apply gd_split)) <;> (intro hc; (try simp only [hcn] at hc); (try simp only [hc]); (try simp only [hcl] at hc); try omega))
    refine CL.pure (rtakeNum_ok (by omega)) ?_
    repeat' (first
      | refine St.h ?_
      | simp (disch := first | omega | (simp only [lnv]; omega)) only [wlk, ↓get_put', ↓reduceIte, seval, e1, tri, hz1]
      | (with_reducible (first | apply cd_split | apply gd_split)) <;> (intro hc; (try simp only [hcn] at hc); (try simp only [hc]); (try simp only [hcl] at hc); try omega))
    subst hQ
    exact hend 10 s1 e0
  have ek : (k : Int).toNat = k := by omega
  have hRd : readR s = match takeR (b.drop k) with
    | none => (0, [], 0, 10)
    | some l => if (bytB q l).2 = 0 ∧ (bytB q l).1 = s.take n then ((q : Int), l, (n : Int), 0) else (0, [], 0, 10) := by
    rw [hRd, e1]
    show (if (0 : Int) ≠ 0 then _ else _) = _
    rw [if_neg (by omega), ek]
  have hdl : (b.drop k).length = b.length - k := List.length_drop
  repeat' (first
    | refine St.h ?_
    | simp (disch := first | omega | (simp only [lnv]; omega)) only [wlk, ↓get_put', ↓reduceIte, seval, opn, e]
    | (with_reducible (first | apply cd_split | apply gd_split)) <;> (intro hc; (try simp only [hcn] at hc); (try simp only [hc]); (try simp only [hcl] at hc); try omega))
  refine CL.pure (rtakeNum_ok (by omega)) ?_
  repeat' (first
    | refine St.h ?_
    | simp (disch := first | omega | (simp only [lnv]; omega)) only [wlk, ↓get_put', ↓reduceIte, seval, e1, tri, ek]
    | (with_reducible (first | apply cd_split | apply gd_split)) <;> (intro hc; (try simp only [hcn] at hc); (try simp only [hc]); (try simp only [hcl] at hc); try omega))
  refine CL.mk (rtakeRow_ok (by omega) hf1) ?_
  rintro _ h2 ⟨u, z, rfl, hu, ho, s2⟩
  have hf2 := s2.fl hf1
  have s02 := s1.trans s2
  repeat' (first
    | refine St.h ?_
    | simp (disch := first | omega | (simp only [lnv]; omega)) only [wlk, ↓get_put', ↓reduceIte, seval]
    | (with_reducible (first | apply cd_split | apply gd_split)) <;> (intro hc; (try simp only [hcn] at hc); (try simp only [hc]); (try simp only [hcl] at hc); try omega))
  refine CL.stay (rbytes12_ok (seq := q) hu (by have := takeR_len (s := b.drop k); omega) (by omega) (by omega) hf2) fun h3 s3 => ?_
  have s03 := s02.trans s3
  cases ht : takeR (b.drop k) with
  | none =>
    have e0 : readR s = (0, [], 0, 10) := by rw [hRd, ht]
    repeat' (first
      | refine St.h ?_
      | simp (disch := first | omega | (simp only [lnv]; omega)) only [wlk, ↓get_put', ↓reduceIte, seval, ht, Option.isSome_none]
      | (with_reducible (first | apply cd_split | apply gd_split)) <;> (intro hc; (try simp only [hcn] at hc); (try simp only [hc]); (try simp only [hcl] at hc); try omega))
    subst hQ
    exact hend 10 s03 e0
  | some l =>
    rw [ht] at hu
    have hu : Ws h2 u l := hu
    by_cases hb : (bytB q l).2 = 0
    · by_cases hc : (bytB q l).1 = s.take n
      · have e0 : readR s = ((q : Int), l, (n : Int), (0 : Int)) := by rw [hRd, ht]; show (if _ then _ else _) = _; rw [if_pos ⟨hb, hc⟩]
        have hcd : decide ((bytB q l).1 = s.take n) = true := decide_eq_true hc
        repeat' (first
          | refine St.h ?_
          | simp (disch := first | omega | (simp only [lnv]; omega)) only [wlk, ↓get_put', ↓reduceIte, seval, ht, hb, hc, Int.toNat_natCast, Option.isSome_some, Option.getD_some]
          | (with_reducible (first | apply cd_split | apply gd_split)) <;> (intro hc; (try simp only [hcn] at hc); (try simp only [hc]); (try simp only [hcl] at hc); try omega))
        subst hQ
        rw [e0]
        exact ⟨u, rfl, hu.grow s3, fun i hi => Nat.le_trans s1.next (ho i hi), s03⟩
      · have e0 : readR s = (0, [], 0, 10) := by rw [hRd, ht]; show (if _ then _ else _) = _; rw [if_neg fun x => hc x.2]
        have hcd : decide ((bytB q l).1 = s.take n) = false := decide_eq_false hc
        repeat' (first
          | refine St.h ?_
          | simp (disch := first | omega | (simp only [lnv]; omega)) only [wlk, ↓get_put', ↓reduceIte, seval, ht, hb, hc, hcd, Int.toNat_natCast, Option.isSome_some, Option.getD_some]
          | (with_reducible (first | apply cd_split | apply gd_split)) <;> (intro hc; (try simp only [hcn] at hc); (try simp only [hc]); (try simp only [hcl] at hc); try omega))
        subst hQ
        exact hend 10 s03 e0
    · have e0 : readR s = (0, [], 0, 10) := by rw [hRd, ht]; show (if _ then _ else _) = _; rw [if_neg fun x => hb x.1]
      repeat' (first
        | refine St.h ?_
        | simp (disch := first | omega | (simp only [lnv]; omega)) only [wlk, ↓get_put', ↓reduceIte, seval, ht, hb, Int.toNat_natCast, Option.isSome_some, Option.getD_some]
        | (with_reducible (first | apply cd_split | apply gd_split)) <;> (intro hc; (try simp only [hcn] at hc); (try simp only [hc]); (try simp only [hcl] at hc); try omega))
      subst hQ
      exact hend 10 s03 e0
theorem rentries_ok {h : H} {v : V} {seq : Int} {L : List Wri} (hL : Ws h v L) (hl : L.length ≤ 10000) (hf : B.val h.floor ≤ B.val h.next) : FnOk Try.prog 22 [.i .i64 seq, v] h fun y h' => Es h' y (entB seq L) ∧ SwN 4 y ∧ (∀ q, isOf y q → B.val h.next ≤ B.val q) ∧ Stay nowhere h h' := by
  refine fn_go c22 (by intro hb; cases hb) (by simp) (by simp) fun Q hQ => ?_
  simp only [slotsF, Nat.reduceAdd]
  repeat' (first
    | refine St.h ?_
    | simp (disch := first | omega | (simp only [lnv]; omega)) only [wlk, ↓get_put', ↓reduceIte, seval]
    | (with_reducible (first | apply cd_split | apply gd_split)) <;> (intro hc; (try simp only [hcn] at hc); (try simp only [hc]); (try simp only [hcl] at hc); try omega))
  refine Ok.lp (fun m t g => ∃ (j : Nat) (u : V), m = L.length - j ∧ j ≤ L.length ∧ (0 < j → isB L = true) ∧ get 0 t = .i .i64 seq ∧ get 1 t = v ∧ get 5 t = u ∧ get 6 t = .i .i64 (j : Int) ∧ Buf g 79 4 u (((L.take j).map fun w => (⟨w.key, seq, w.del, w.val⟩ : Ent)).flatMap entC) ∧ (∀ q, isOf u q → B.val h.next ≤ B.val q) ∧ Stay nowhere h g) L.length ?_ ?_
  · simp (disch := first | omega | (simp only [lnv]; omega)) only [wlk, ↓get_put', ↓reduceIte, seval]
    refine ⟨0, .l0, by omega, by omega, fun e => absurd e (by omega), ?_, ?_, ?_, ?_, Buf.nil _ _ _, ?_, Stay.refl _ _⟩
    rotate_right
    · rintro i ⟨_, _, _, _, _, e⟩; cases e
    all_goals first | trivial | rfl
  rintro I hI m t g ⟨j, u, rfl, hj, hB0, f0, f1, f5, f6, bf, own, st⟩
  have hLg := hL.grow st
  have hfg := st.fl hf
  by_cases hjl : j < L.length
  case neg =>
    obtain rfl : j = L.length := by omega
    rw [List.take_length] at bf
    repeat' (first
      | refine St.h ?_
      | simp (disch := first | omega | (simp only [lnv]; omega)) only [wlk, ↓get_put', ↓reduceIte, seval, f0, f1, f5, f6, hLg.ln]
      | (with_reducible (first | apply cd_split | apply gd_split)) <;> (intro hc; (try simp only [hcn] at hc); (try simp only [hc]); (try simp only [hcl] at hc); try omega))
    subst hQ
    have hE : entB seq L = L.map fun w => (⟨w.key, seq, w.del, w.val⟩ : Ent) := by
      unfold entB
      by_cases h0 : 0 < L.length
      · rw [hB0 h0]; rfl
      · have hn : L = [] := List.eq_nil_of_length_eq_zero (by omega)
        rw [hn]; split <;> rfl
    rw [hE]
    exact ⟨Ss.buf bf rfl entC_len (by omega), swn_buf12 bf, own, st⟩
  repeat' (first
    | refine St.h ?_
    | simp (disch := first | omega | (simp only [lnv]; omega)) only [wlk, ↓get_put', ↓reduceIte, seval, f0, f1, f5, f6, hLg.ln]
    | (with_reducible (first | apply cd_split | apply gd_split)) <;> (intro hc; (try simp only [hcn] at hc); (try simp only [hc]); (try simp only [hcl] at hc); try omega))
  refine CL.stay (ris12_ok hLg hl hfg) fun g1 t1 => ?_
  have hL1 := hLg.grow t1
  have hf1 := t1.fl hfg
  have b1 := bf.grow t1
  cases hB : isB L with
  | false =>
    have h0 : j = 0 := by
      cases j with
      | zero => rfl
      | succ j => have := hB0 (by omega); rw [hB] at this; cases this
    subst h0
    repeat' (first
      | refine St.h ?_
      | simp (disch := first | omega | (simp only [lnv]; omega)) only [wlk, ↓get_put', ↓reduceIte, seval, f0, f1, f5, f6]
      | (with_reducible (first | apply cd_split | apply gd_split)) <;> (intro hc; (try simp only [hcn] at hc); (try simp only [hc]); (try simp only [hcl] at hc); try omega))
    subst hQ
    have hE : entB seq L = [] := by unfold entB; rw [hB]; rfl
    rw [hE]
    exact ⟨Ss.buf b1 rfl entC_len (by omega), swn_buf12 b1, own, st.trans t1⟩
  | true =>
    repeat' (first
      | refine St.h ?_
      | simp (disch := first | omega | (simp only [lnv]; omega)) only [wlk, ↓get_put', ↓reduceIte, seval, f0, f1, f5, f6, hL1.ln, hL1.ix, hL1.l0, hL1.l1, hL1.l2, Int.toNat_natCast]
      | (with_reducible (first | apply cd_split | apply gd_split)) <;> (intro hc; (try simp only [hcn] at hc); (try simp only [hc]); (try simp only [hcl] at hc); try omega))
    refine AL.own (by simp) hf1 fun g2 t2 _ q2 => ?_
    have b2 := b1.grow t2
    repeat' (first
      | refine St.h ?_
      | simp (disch := first | omega | (simp only [lnv]; omega)) only [wlk, ↓get_put', ↓reduceIte, seval, f0, f1, f5, f6]
      | (with_reducible (first | apply cd_split | apply gd_split)) <;> (intro hc; (try simp only [hcn] at hc); (try simp only [hc]); (try simp only [hcl] at hc); try omega))
    have hfl : (((L.take j).map fun w => (⟨w.key, seq, w.del, w.val⟩ : Ent)).flatMap entC).length = j * 4 := by rw [fm_len entC_len]; simp; omega
    refine AP.buf (vs := entC ⟨(L.getD j default).key, seq, (L.getD j default).del, (L.getD j default).val⟩) (cnt := 1) b2 (new_row q2.row rfl (Nat.le_refl _) (by omega) (by show 4 ≤ 4; omega)) (t2.fl hf1) (by omega) rfl rfl (by rw [hfl]; show j * 4 + 4 ≤ 1048576; omega) fun u2 g3 b3 t3 ho _ => ?_
    repeat' (first
      | refine St.h ?_
      | simp (disch := first | omega | (simp only [lnv]; omega)) only [wlk, ↓get_put', ↓reduceIte, seval, f0, f1, f5, f6]
      | (with_reducible (first | apply cd_split | apply gd_split)) <;> (intro hc; (try simp only [hcn] at hc); (try simp only [hc]); (try simp only [hcl] at hc); try omega))
    have n2 := ((st.trans t1).trans t2).next
    refine lp_next hI (L.length - (j + 1)) (by omega) ⟨j + 1, u2, rfl, by omega, fun _ => hB, ?_, ?_, ?_, ?_, ?_, fun i hi => ?_, ((st.trans t1).trans t2).past' t3 fun i hi => own i hi⟩
    · simp (disch := first | omega | (simp only [lnv]; omega)) only [wlk, ↓get_put', ↓reduceIte, seval, f0]
    · simp (disch := first | omega | (simp only [lnv]; omega)) only [wlk, ↓get_put', ↓reduceIte, seval, f1]
    · simp (disch := first | omega | (simp only [lnv]; omega)) only [wlk, ↓get_put', ↓reduceIte, seval]
    · simp (disch := first | omega | (simp only [lnv]; omega)) only [wlk, ↓get_put', ↓reduceIte, seval]; rfl
    · rw [take_wri hjl, List.map_append, List.flatMap_append]; simpa using b3
    · rcases ho i hi with h3 | h3
      · exact own i h3
      · omega
theorem entB_len (seq : Int) (L : List Wri) : (entB seq L).length ≤ L.length ∧ (entB seq L).length ≤ 8 := by
  unfold entB
  cases hB : isB L with
  | false => simp
  | true => have := isB_len hB; simp; omega
theorem readR_num {s b : List UInt8} {n : Nat} (e : openB s = (b, (n : Int), 0)) (h : (takeN b).2.2 ≠ 0) : readR s = (0, [], 0, 10) := by
  unfold readR
  rw [e]
  show (if (0 : Int) ≠ 0 then _ else if (takeN b).2.2 ≠ 0 then _ else _ : Int × List Wri × Int × Int) = _
  rw [if_neg (by omega), if_pos h]
theorem readR_eq {s b : List UInt8} {n q k : Nat} (e : openB s = (b, (n : Int), 0)) (e1 : takeN b = ((q : Int), (k : Int), 0)) : readR s = match takeR (b.drop k) with
    | none => (0, [], 0, 10)
    | some l => if (bytB q l).2 = 0 ∧ (bytB q l).1 = s.take n then ((q : Int), l, (n : Int), 0) else (0, [], 0, 10) := by
  unfold readR
  rw [e]
  show (if (0 : Int) ≠ 0 then _ else if (takeN b).2.2 ≠ 0 then _ else _ : Int × List Wri × Int × Int) = _
  rw [if_neg (by omega), e1]
  show (if (0 : Int) ≠ 0 then _ else _ : Int × List Wri × Int × Int) = _
  rw [if_neg (by omega)]; rfl
theorem bytB_ok {q : Int} {l : List Wri} (h : (bytB q l).2 = 0) : okB12 q l = true ∧ (bytB q l).1 = batB q l := by
  unfold bytB at h ⊢
  cases ho : okB12 q l with
  | false => rw [ho] at h; simp at h
  | true => exact ⟨rfl, rfl⟩
theorem readR_cases (s : List UInt8) : (readR s).2.2.2 ≠ 0 ∨ ∃ (q n : Nat) (l : List Wri), readR s = ((q : Int), l, (n : Int), 0) ∧ okB12 q l = true ∧ s.take n = batB q l ∧ 5 ≤ n ∧ n ≤ s.length := by
  rcases openB_range s with e | e | ⟨b, n, e, n1, n2, n3⟩
  · left; unfold readR; rw [e]; simp
  · left; unfold readR; rw [e]; simp
  · rcases takeN_range b with (e1 | e1) | ⟨q, k, e1, q1, k1, k2, k3⟩
    · left; rw [readR_num e (by rw [e1]; simp)]; simp
    · left; rw [readR_num e (by rw [e1]; simp)]; simp
    · cases ht : takeR (b.drop k) with
      | none => left; rw [readR_eq e e1, ht]; simp
      | some l =>
        have hr : readR s = if (bytB q l).2 = 0 ∧ (bytB q l).1 = s.take n then ((q : Int), l, (n : Int), (0 : Int)) else (0, [], 0, 10) := by rw [readR_eq e e1, ht]
        by_cases hb : (bytB q l).2 = 0 ∧ (bytB q l).1 = s.take n
        · right
          obtain ⟨b1, b2⟩ := bytB_ok hb.1
          exact ⟨q, n, l, by rw [hr, if_pos hb], b1, by rw [← hb.2, b2], n1, n2⟩
        · left; rw [hr, if_neg hb]; simp
theorem allOne_ents : ∀ L : List Ent, allOne (L.flatMap entC) = true
  | [] => rfl
  | a :: L => by
    have := allOne_ents L
    show allOne (entC a ++ L.flatMap entC) = true
    exact this
theorem rlog_ok {h : H} {s : List UInt8} (hs : s.length ≤ 100000) (hf : B.val h.floor ≤ B.val h.next) : FnOk Try.prog 14 [sv s] h fun y h' => ∃ u, y = .tu [u, .i .i64 (logB s).2.1, .i .i64 ((logB s).2.2 : Int)] ∧ Es h' u (logB s).1 ∧ SwN 4 u ∧ (∀ q, isOf u q → B.val h.next ≤ B.val q) ∧ Stay nowhere h h' := by
  refine fn_go c14 (by intro hb; cases hb) (by simp) (by simp) fun Q hQ => ?_
  simp only [slotsF, Nat.reduceAdd]
  repeat' (first
    | refine St.h ?_
    | simp (disch := first | omega | (simp only [lnv]; omega)) only [wlk, ↓get_put', ↓reduceIte, seval]
    | (with_reducible (first | apply cd_split | apply gd_split)) <;> (intro hc; (try simp only [hcn] at hc); (try simp only [hc]); (try simp only [hcl] at hc); try omega))
  refine Ok.lp (fun m t g => ∃ (a k : Nat) (z : Int) (u : V) (M : List Ent), m = s.length - a ∧ a ≤ s.length ∧ s.length - a ≤ k ∧ M.length ≤ 2 * a ∧ (0 < a → 0 ≤ z ∧ z ≤ 1000000) ∧ logB s = (M ++ (logF k (decide (a = 0)) z (s.drop a)).1, (logF k (decide (a = 0)) z (s.drop a)).2.1, a + (logF k (decide (a = 0)) z (s.drop a)).2.2) ∧ get 0 t = sv s ∧ get 5 t = u ∧ get 6 t = .i .i64 z ∧ get 7 t = .i .i64 (a : Int) ∧ Buf g 79 4 u (M.flatMap entC) ∧ (∀ q, isOf u q → B.val h.next ≤ B.val q) ∧ Stay nowhere h g ∧ (a = 0 → z = 0)) s.length ?_ ?_
  · simp (disch := first | omega | (simp only [lnv]; omega)) only [wlk, ↓get_put', ↓reduceIte, seval]
    refine ⟨0, s.length, 0, .l0, [], by omega, by omega, by omega, by simp, fun e => absurd e (by omega), ?_, ?_, ?_, ?_, ?_, Buf.nil _ _ _, ?_, Stay.refl _ _, fun _ => rfl⟩
    rotate_right
    · rintro i ⟨_, _, _, _, _, e⟩; cases e
    · unfold logB; simp
    all_goals first | trivial | rfl
  rintro I hI m t g ⟨a, k, z, u, M, rfl, ha, hk, hM, hz, hG, f0, f5, f6, f7, bf, own, st, hz0⟩
  have hfg := st.fl hf
  have hdl : (s.drop a).length = s.length - a := List.length_drop
  have hend : logF k (decide (a = 0)) z (s.drop a) = ([], z, 0) → logB s = (M, z, a) := fun e => by rw [hG, e, List.append_nil]; rfl
  by_cases has : a < s.length
  case neg =>
    obtain rfl : a = s.length := by omega
    have e0 := hend (by
      rw [List.drop_length]
      cases k with
      | zero => rfl
      | succ k => unfold logF; rw [if_pos (Or.inl rfl)])
    repeat' (first
      | refine St.h ?_
      | simp (disch := first | omega | (simp only [lnv]; omega)) only [wlk, ↓get_put', ↓reduceIte, seval, f0, f5, f6, f7]
      | (with_reducible (first | apply cd_split | apply gd_split)) <;> (intro hc; (try simp only [hcn] at hc); (try simp only [hc]); (try simp only [hcl] at hc); try omega))
    subst hQ
    rw [e0]
    exact ⟨u, rfl, Ss.buf bf rfl entC_len (by omega), swn_buf12 bf, own, st⟩
  obtain ⟨k, rfl⟩ : ∃ k', k = k' + 1 := ⟨k - 1, by omega⟩
  have hne : s.drop a ≠ [] := fun e => by rw [e] at hdl; simp at hdl; omega
  repeat' (first
    | refine St.h ?_
    | simp (disch := first | omega | (simp only [lnv]; omega)) only [wlk, ↓get_put', ↓reduceIte, seval, f0, f5, f6, f7, Int.toNat_natCast]
    | (with_reducible (first | apply cd_split | apply gd_split)) <;> (intro hc; (try simp only [hcn] at hc); (try simp only [hc]); (try simp only [hcl] at hc); try omega))
  refine CL.mk (rread12_ok (s := s.drop a) (by omega) hfg) ?_
  rintro _ g1 ⟨w, rfl, hw, hwo, t1⟩
  have hf1 := t1.fl hfg
  have b1 := bf.grow t1
  have st1 := st.trans t1
  rcases readR_cases (s.drop a) with e | ⟨q, n, l, e, ho, hb, n1, n2⟩
  · have e0 := hend (by unfold logF; rw [if_pos (Or.inr (Or.inl e))])
    repeat' (first
      | refine St.h ?_
      | simp (disch := first | omega | (simp only [lnv]; omega)) only [wlk, ↓get_put', ↓reduceIte, seval, f0, f5, f6, f7, rdV, e]
      | (with_reducible (first | apply cd_split | apply gd_split)) <;> (intro hc; (try simp only [hcn] at hc); (try simp only [hc]); (try simp only [hcl] at hc); try omega))
    subst hQ
    rw [e0]
    exact ⟨u, rfl, Ss.buf b1 rfl entC_len (by omega), swn_buf12 b1, own, st1⟩
  have hq : 1 ≤ q ∧ q ≤ 1000000 := by
    unfold okB12 at ho
    rw [Bool.and_eq_true] at ho
    have := of_decide_eq_true ho.2; omega
  have hl8 := isB_len (by unfold okB12 at ho; rw [Bool.and_eq_true] at ho; exact ho.1)
  rw [hdl] at n2
  have hdd : (s.drop a).drop n = s.drop (a + n) := by rw [List.drop_drop]
  rw [e] at hw
  have hw : Ws g1 w l := hw
  have hstep : ¬ (decide (a = 0) = false ∧ (q : Int) ≠ z + 1) → logF (k + 1) (decide (a = 0)) z (s.drop a) = (entB q l ++ (logF k false q (s.drop (a + n))).1, (logF k false q (s.drop (a + n))).2.1, n + (logF k false q (s.drop (a + n))).2.2) := fun hx => by
    show (if _ ∨ _ ∨ _ then _ else _ : List Ent × Int × Nat) = _
    rw [e, if_neg (by
      rintro (h1 | h1 | h1)
      · exact hne h1
      · exact h1 rfl
      · exact hx h1)]
    show (_, _, _) = _
    rw [← hdd]
    rfl
  by_cases hx : 0 < a ∧ (q : Int) ≠ z + 1
  · have e0 := hend (by
      show (if _ ∨ _ ∨ _ then _ else _ : List Ent × Int × Nat) = _
      rw [if_pos (Or.inr (Or.inr ⟨by rw [decide_eq_false (by omega)], by rw [e]; exact hx.2⟩))])
    have hz := hz hx.1
    have ha0 : ((0 : Int) < (a : Int)) = True := eq_true (by omega)
    have hqz : ((q : Int) = z + 1) = False := eq_false hx.2
    repeat' (first
      | refine St.h ?_
      | simp (disch := first | omega | (simp only [lnv]; omega)) only [wlk, ↓get_put', ↓reduceIte, seval, f0, f5, f6, f7, rdV, e, ha0, hqz]
      | (with_reducible (first | apply cd_split | apply gd_split)) <;> (intro hc; (try simp only [hcn] at hc); (try simp only [hc]); (try simp only [hcl] at hc); try omega))
    subst hQ
    rw [e0]
    exact ⟨u, rfl, Ss.buf b1 rfl entC_len (by omega), swn_buf12 b1, own, st1⟩
  have hst := hstep (fun h => hx ⟨by have := of_decide_eq_false h.1; omega, h.2⟩)
  have hel := entB_len (q : Int) l
  by_cases h0 : a = 0
  · have ha0 : ((0 : Int) < (a : Int)) = False := eq_false (by omega)
    repeat' (first
      | refine St.h ?_
      | simp (disch := first | omega | (simp only [lnv]; omega)) only [wlk, ↓get_put', ↓reduceIte, seval, f0, f5, f6, f7, rdV, e, ha0]
      | (with_reducible (first | apply cd_split | apply gd_split)) <;> (intro hc; (try simp only [hcn] at hc); (try simp only [hc]); (try simp only [hcl] at hc); try omega))
    refine CL.mk (rentries_ok (seq := q) hw (by omega) hf1) ?_
    rintro u2 g2 ⟨he, _, heo, t2⟩
    have hf2 := t2.fl hf1
    have b2 := b1.grow t2
    repeat' (first
      | refine St.h ?_
      | simp (disch := first | omega | (simp only [lnv]; omega)) only [wlk, ↓get_put', ↓reduceIte, seval, f0, f5, f6, f7, rdV, e]
      | (with_reducible (first | apply cd_split | apply gd_split)) <;> (intro hc; (try simp only [hcn] at hc); (try simp only [hc]); (try simp only [hcl] at hc); try omega))
    refine AP.buf (vs := (entB q l).flatMap entC) (cnt := (entB q l).length) b2 (fun k => new_ss he entC_len (by omega) k) hf2 (by omega) (fm_len entC_len _) (allOne_ents _) (by rw [fm_len entC_len, fm_len entC_len]; omega) fun u3 g3 b3 t3 ho3 _ => ?_
    have n2' := (st1.trans t2).next
    repeat' (first
      | refine St.h ?_
      | simp (disch := first | omega | (simp only [lnv]; omega)) only [wlk, ↓get_put', ↓reduceIte, seval, f0, f5, f6, f7, rdV, e]
      | (with_reducible (first | apply cd_split | apply gd_split)) <;> (intro hc; (try simp only [hcn] at hc); (try simp only [hc]); (try simp only [hcl] at hc); try omega))
    refine lp_next hI (s.length - (a + n)) (by omega) ⟨a + n, k, q, u3, M ++ entB q l, rfl, by omega, by omega, by rw [List.length_append]; omega, fun _ => by omega, ?_, ?_, ?_, ?_, ?_, by rw [List.flatMap_append]; exact b3, fun i hi => ?_, (st1.trans t2).past' t3 fun i hi => own i hi, fun h0 => by omega⟩
    · rw [hG, hst, decide_eq_false (by omega : ¬ a + n = 0)]
      rw [List.append_assoc, Nat.add_assoc]
    · simp (disch := first | omega | (simp only [lnv]; omega)) only [wlk, ↓get_put', ↓reduceIte, seval, f0]
    · simp (disch := first | omega | (simp only [lnv]; omega)) only [wlk, ↓get_put', ↓reduceIte, seval]
    · simp (disch := first | omega | (simp only [lnv]; omega)) only [wlk, ↓get_put', ↓reduceIte, seval]
    · simp (disch := first | omega | (simp only [lnv]; omega)) only [wlk, ↓get_put', ↓reduceIte, seval]; rfl
    · rcases ho3 i hi with h3 | h3
      · exact own i h3
      · omega
  · have ha0 : ((0 : Int) < (a : Int)) = True := eq_true (by omega)
    have hqz : (q : Int) = z + 1 := by
      by_cases h : (q : Int) = z + 1
      · exact h
      · exact absurd ⟨by omega, h⟩ hx
    have hz := hz (by omega)
    have hqz : ((q : Int) = z + 1) = True := eq_true hqz
    repeat' (first
      | refine St.h ?_
      | simp (disch := first | omega | (simp only [lnv]; omega)) only [wlk, ↓get_put', ↓reduceIte, seval, f0, f5, f6, f7, rdV, e, ha0, hqz]
      | (with_reducible (first | apply cd_split | apply gd_split)) <;> (intro hc; (try simp only [hcn] at hc); (try simp only [hc]); (try simp only [hcl] at hc); try omega))
    refine CL.mk (rentries_ok (seq := q) hw (by omega) hf1) ?_
    rintro u2 g2 ⟨he, _, heo, t2⟩
    have hf2 := t2.fl hf1
    have b2 := b1.grow t2
    repeat' (first
      | refine St.h ?_
      | simp (disch := first | omega | (simp only [lnv]; omega)) only [wlk, ↓get_put', ↓reduceIte, seval, f0, f5, f6, f7, rdV, e]
      | (with_reducible (first | apply cd_split | apply gd_split)) <;> (intro hc; (try simp only [hcn] at hc); (try simp only [hc]); (try simp only [hcl] at hc); try omega))
    refine AP.buf (vs := (entB q l).flatMap entC) (cnt := (entB q l).length) b2 (fun k => new_ss he entC_len (by omega) k) hf2 (by omega) (fm_len entC_len _) (allOne_ents _) (by rw [fm_len entC_len, fm_len entC_len]; omega) fun u3 g3 b3 t3 ho3 _ => ?_
    have n2' := (st1.trans t2).next
    repeat' (first
      | refine St.h ?_
      | simp (disch := first | omega | (simp only [lnv]; omega)) only [wlk, ↓get_put', ↓reduceIte, seval, f0, f5, f6, f7, rdV, e]
      | (with_reducible (first | apply cd_split | apply gd_split)) <;> (intro hc; (try simp only [hcn] at hc); (try simp only [hc]); (try simp only [hcl] at hc); try omega))
    refine lp_next hI (s.length - (a + n)) (by omega) ⟨a + n, k, q, u3, M ++ entB q l, rfl, by omega, by omega, by rw [List.length_append]; omega, fun _ => by omega, ?_, ?_, ?_, ?_, ?_, by rw [List.flatMap_append]; exact b3, fun i hi => ?_, (st1.trans t2).past' t3 fun i hi => own i hi, fun h0 => by omega⟩
    · rw [hG, hst, decide_eq_false (by omega : ¬ a + n = 0)]
      rw [List.append_assoc, Nat.add_assoc]
    · simp (disch := first | omega | (simp only [lnv]; omega)) only [wlk, ↓get_put', ↓reduceIte, seval, f0]
    · simp (disch := first | omega | (simp only [lnv]; omega)) only [wlk, ↓get_put', ↓reduceIte, seval]
    · simp (disch := first | omega | (simp only [lnv]; omega)) only [wlk, ↓get_put', ↓reduceIte, seval]
    · simp (disch := first | omega | (simp only [lnv]; omega)) only [wlk, ↓get_put', ↓reduceIte, seval]; rfl
    · rcases ho3 i hi with h3 | h3
      · exact own i h3
      · omega
end Go.Proofs.Ythncpgkpkdolfaa

set_option linter.all false
namespace Go.Ev
open Go
def Up (L : List Wri) : Prop := L.Pairwise fun a b => Op.bytesLess a.key b.key = true
def insW (w : Wri) : List Wri → List Wri
  | [] => [w]
  | x :: L => if x.key = w.key then w :: L else if Op.bytesLess w.key x.key then w :: x :: L else x :: insW w L
theorem wi_true {w : Wri} : ∀ {L : List Wri} {out : List Wri}, (∀ x ∈ L, x.key ≠ w.key) → L.foldl (wiS w) (out, true) = (out ++ L, true)
  | [], out, _ => by simp
  | x :: L, out, h => by
    have h1 := h x (by simp)
    rw [List.foldl_cons, show wiS w (out, true) x = (out ++ [x], true) by unfold wiS; simp [h1], wi_true fun y hy => h y (List.mem_cons_of_mem _ hy)]
    simp
theorem bl_ne {a b : List UInt8} (h : Op.bytesLess a b = true) : a ≠ b := fun e => by rw [e, bl_irr] at h; cases h
theorem wi_false {w : Wri} : ∀ {L : List Wri} {out : List Wri}, Up L → (if (L.foldl (wiS w) (out, false)).2 then (L.foldl (wiS w) (out, false)).1 else (L.foldl (wiS w) (out, false)).1 ++ [w]) = out ++ insW w L
  | [], out, _ => by simp [insW]
  | x :: L, out, h => by
    obtain ⟨h1, h2⟩ := List.pairwise_cons.1 h
    rw [List.foldl_cons]
    by_cases he : x.key = w.key
    · have hl : leB w.key x.key = true := by unfold leB; rw [he]; simp
      rw [show wiS w (out, false) x = (out ++ [w], true) by unfold wiS; simp [he, show leB w.key w.key = true by unfold leB; simp], wi_true fun y hy e => by
        have := h1 y hy
        rw [he, e, bl_irr] at this; cases this]
      unfold insW; rw [if_pos he]; simp
    · cases hb : Op.bytesLess w.key x.key with
      | true =>
        have hl : leB w.key x.key = true := by unfold leB; rw [hb]; rfl
        rw [show wiS w (out, false) x = (out ++ [w] ++ [x], true) by unfold wiS; simp [he, hl], wi_true fun y hy e => by
          have := bl_trans hb (h1 y hy)
          rw [e, bl_irr] at this; cases this]
        unfold insW; rw [if_neg he, hb]; simp
      | false =>
        have hl : leB w.key x.key = false := by unfold leB; rw [hb, decide_eq_false fun e => he e.symm]; rfl
        have hi : insW w (x :: L) = x :: insW w L := by
          show (if x.key = w.key then _ else if _ then _ else _) = _
          rw [if_neg he, hb]; simp
        rw [show wiS w (out, false) x = (out ++ [x], false) by unfold wiS; simp [he, hl], wi_false h2, hi]
        simp
theorem withB_ins {w : Wri} {L : List Wri} (h : Up L) : withB L w = insW w L := by
  have := wi_false (w := w) (out := []) h
  rw [List.nil_append] at this
  exact this
theorem insW_mem {w m : Wri} : ∀ {L : List Wri}, Up L → (m ∈ insW w L ↔ m = w ∨ (m ∈ L ∧ m.key ≠ w.key))
  | [], _ => by simp [insW]
  | x :: L, h => by
    obtain ⟨h1, h2⟩ := List.pairwise_cons.1 h
    unfold insW
    by_cases he : x.key = w.key
    · rw [if_pos he, List.mem_cons, List.mem_cons]
      constructor
      · rintro (e | e)
        · exact .inl e
        · exact .inr ⟨.inr e, fun e2 => bl_ne (h1 m e) (he.trans e2.symm)⟩
      · rintro (e | ⟨e | e, e2⟩)
        · exact .inl e
        · rw [e] at e2; exact absurd he e2
        · exact .inr e
    · rw [if_neg he]
      cases hb : Op.bytesLess w.key x.key with
      | true =>
        rw [if_pos rfl, List.mem_cons, List.mem_cons]
        constructor
        · rintro (e | e | e)
          · exact .inl e
          · exact .inr ⟨.inl e, by rw [e]; exact he⟩
          · exact .inr ⟨.inr e, fun e2 => by
              have := bl_trans hb (h1 m e)
              exact bl_ne this e2.symm⟩
        · rintro (e | ⟨e | e, _⟩)
          · exact .inl e
          · exact .inr (.inl e)
          · exact .inr (.inr e)
      | false =>
        rw [if_neg (by simp), List.mem_cons, insW_mem h2, List.mem_cons]
        constructor
        · rintro (e | e | ⟨e, e2⟩)
          · exact .inr ⟨.inl e, by rw [e]; exact he⟩
          · exact .inl e
          · exact .inr ⟨.inr e, e2⟩
        · rintro (e | ⟨e | e, e2⟩)
          · exact .inr (.inl e)
          · exact .inl e
          · exact .inr (.inr ⟨e, e2⟩)
theorem insW_up {w : Wri} : ∀ {L : List Wri}, Up L → Up (insW w L)
  | [], _ => by simp [insW, Up]
  | x :: L, h => by
    obtain ⟨h1, h2⟩ := List.pairwise_cons.1 h
    unfold insW
    by_cases he : x.key = w.key
    · rw [if_pos he]
      exact List.pairwise_cons.2 ⟨fun y hy => by rw [← he]; exact h1 y hy, h2⟩
    · rw [if_neg he]
      cases hb : Op.bytesLess w.key x.key with
      | true =>
        rw [if_pos rfl]
        exact List.pairwise_cons.2 ⟨fun y hy => by
          rcases List.mem_cons.1 hy with e | e
          · rw [e]; exact hb
          · exact bl_trans hb (h1 y e), h⟩
      | false =>
        rw [if_neg (by simp)]
        refine List.pairwise_cons.2 ⟨fun y hy => ?_, insW_up h2⟩
        rcases (insW_mem h2).1 hy with e | ⟨e, _⟩
        · rw [e]
          rcases bl_total (fun e => he e : x.key ≠ w.key) with h3 | h3
          · exact h3
          · rw [hb] at h3; cases h3
        · exact h1 y e
theorem insW_len {w : Wri} : ∀ L : List Wri, (insW w L).length ≤ L.length + 1
  | [] => by simp [insW]
  | x :: L => by
    unfold insW
    have := insW_len (w := w) L
    split
    · simp
    · split
      · simp
      · simp; omega
theorem neat_up : ∀ (L out : List Wri), Up out → Up (L.foldl withB out)
  | [], _, h => h
  | w :: L, out, h => by
    rw [List.foldl_cons]
    exact neat_up L _ (by rw [withB_ins h]; exact insW_up h)
theorem neatB_up (L : List Wri) : Up (neatB L) := neat_up L [] List.Pairwise.nil
theorem neatB_step {L : List Wri} {i : Nat} (hi : i < L.length) : neatB (L.take (i + 1)) = insW (L.getD i default) (neatB (L.take i)) := by rw [neatB_take hi, withB_ins (neatB_up _)]
theorem neatB_len {L : List Wri} : ∀ {j : Nat}, j ≤ L.length → (neatB (L.take j)).length ≤ j
  | 0, _ => by simp [neatB]
  | j + 1, hj => by
    have h1 := neatB_len (L := L) (j := j) (by omega)
    have h2 := insW_len (w := L.getD j default) (neatB (L.take j))
    rw [neatB_step (by omega)]; omega
theorem up_ext : ∀ {A C : List Wri}, Up A → Up C → (∀ a, a ∈ A ↔ a ∈ C) → A = C
  | [], [], _, _, _ => rfl
  | [], c :: C, _, _, h => absurd ((h c).2 (by simp)) (by simp)
  | a :: A, [], _, _, h => absurd ((h a).1 (by simp)) (by simp)
  | a :: A, c :: C, ha, hc, h => by
    obtain ⟨a1, a2⟩ := List.pairwise_cons.1 ha
    obtain ⟨c1, c2⟩ := List.pairwise_cons.1 hc
    have e : a = c := by
      rcases List.mem_cons.1 ((h a).1 (by simp)) with e | e
      · exact e
      · rcases List.mem_cons.1 ((h c).2 (by simp)) with e2 | e2
        · exact e2.symm
        · have := bl_trans (c1 a e) (a1 c e2)
          rw [bl_irr] at this; cases this
    subst e
    rw [up_ext a2 c2 fun x => ?_]
    constructor
    · intro hx
      rcases List.mem_cons.1 ((h x).1 (List.mem_cons_of_mem _ hx)) with e | e
      · have := a1 x hx; rw [e, bl_irr] at this; cases this
      · exact e
    · intro hx
      rcases List.mem_cons.1 ((h x).2 (List.mem_cons_of_mem _ hx)) with e | e
      · have := c1 x hx; rw [e, bl_irr] at this; cases this
      · exact e
end Go.Ev

set_option linter.all false
namespace Go.Ev
open Go
/-- of two of L, by their places: is the first one's key less -/
def klK (L : List Wri) (x y : Nat) : Bool := Op.bytesLess (L.getD x default).key (L.getD y default).key
def eqK (L : List Wri) (x y : Nat) : Prop := (L.getD x default).key = (L.getD y default).key
/-- by keys, those of one key as they came -/
def ltK (L : List Wri) (x y : Nat) : Prop := klK L x y = true ∨ (eqK L x y ∧ x < y)
section
variable {L : List Wri} {x y z : Nat} {p q : Nat → Nat} {a b c m s e n : Nat}
theorem ltK_kl (h : klK L x y = true) : ltK L x y := .inl h
theorem ltK_no (h : klK L x y = false) (hs : eqK L y x → y < x) : ltK L y x := by
  unfold klK at h
  by_cases e : (L.getD x default).key = (L.getD y default).key
  · exact .inr ⟨e.symm, hs e.symm⟩
  · rcases bl_total e with h2 | h2
    · rw [h] at h2; cases h2
    · exact .inl h2
theorem ltK_trans (h1 : ltK L x y) (h2 : ltK L y z) : ltK L x z := by
  unfold ltK klK eqK at *
  rcases h1 with h1 | ⟨h1, h3⟩ <;> rcases h2 with h2 | ⟨h2, h4⟩
  · exact .inl (bl_trans h1 h2)
  · rw [h2] at h1; exact .inl h1
  · rw [← h1] at h2; exact .inl h2
  · exact .inr ⟨h1.trans h2, by omega⟩
/-- the row in places a to b is in order -/
def Srt (L : List Wri) (p : Nat → Nat) (a b : Nat) : Prop := ∀ i j, a ≤ i → i < j → j < b → ltK L (p i) (p j)
/-- of one key those in the first part came first -/
def Stb (L : List Wri) (p : Nat → Nat) (a m b : Nat) : Prop := ∀ i j, a ≤ i → i < m → m ≤ j → j < b → eqK L (p i) (p j) → p i < p j
def Crs (L : List Wri) (p : Nat → Nat) (a m b : Nat) : Prop := ∀ i j, a ≤ i → i < m → m ≤ j → j < b → ltK L (p i) (p j)
/-- in places a to b the same ones, elsewhere nothing has changed -/
structure Per (p q : Nat → Nat) (a b : Nat) : Prop where
  out : ∀ k, k < a ∨ b ≤ k → q k = p k
  mem : ∀ x, (∃ k, a ≤ k ∧ k < b ∧ q k = x) ↔ ∃ k, a ≤ k ∧ k < b ∧ p k = x
theorem Per.refl : Per p p a b := ⟨fun _ _ => rfl, fun _ => Iff.rfl⟩
theorem Per.trans {r : Nat → Nat} (h1 : Per p q a b) (h2 : Per q r a b) : Per p r a b := ⟨fun k hk => (h2.out k hk).trans (h1.out k hk), fun x => (h2.mem x).trans (h1.mem x)⟩
theorem Per.wide {a' b' : Nat} (h : Per p q a b) (ha : a' ≤ a) (hb : b ≤ b') : Per p q a' b' := by
  refine ⟨fun k hk => h.out k (by omega), fun x => ⟨?_, ?_⟩⟩
  · rintro ⟨k, h1, h2, h3⟩
    by_cases hk : k < a ∨ b ≤ k
    · exact ⟨k, h1, h2, by rw [← h.out k hk]; exact h3⟩
    · obtain ⟨j, h4, h5, h6⟩ := (h.mem x).1 ⟨k, by omega, by omega, h3⟩
      exact ⟨j, by omega, by omega, h6⟩
  · rintro ⟨k, h1, h2, h3⟩
    by_cases hk : k < a ∨ b ≤ k
    · exact ⟨k, h1, h2, by rw [h.out k hk]; exact h3⟩
    · obtain ⟨j, h4, h5, h6⟩ := (h.mem x).2 ⟨k, by omega, by omega, h3⟩
      exact ⟨j, by omega, by omega, h6⟩
theorem srt_glue (h1 : Srt L p a m) (h2 : Srt L p m b) (h3 : Crs L p a m b) : Srt L p a b := fun i j hi hij hj => by
  by_cases h4 : j < m
  · exact h1 i j hi hij h4
  · by_cases h5 : m ≤ i
    · exact h2 i j h5 hij hj
    · exact h3 i j hi (by omega) (by omega) hj
theorem crs_per (h : Crs L p a m b) (h1 : Per p q a m) : Crs L q a m b := fun i j hi him hmj hj => by
  obtain ⟨k, k1, k2, k3⟩ := (h1.mem (q i)).1 ⟨i, hi, him, rfl⟩
  rw [← k3, h1.out j (.inr hmj)]
  exact h k j k1 k2 hmj hj
theorem crs_per2 (h : Crs L p a m b) (h1 : Per p q m b) : Crs L q a m b := fun i j hi him hmj hj => by
  obtain ⟨k, k1, k2, k3⟩ := (h1.mem (q j)).1 ⟨j, hmj, hj, rfl⟩
  rw [← k3, h1.out i (.inl him)]
  exact h i k hi him k1 k2
theorem srt_out (h : Srt L p a b) (h1 : ∀ k, a ≤ k → k < b → q k = p k) : Srt L q a b := fun i j hi hij hj => by
  rw [h1 i hi (by omega), h1 j (by omega) hj]; exact h i j hi hij hj
/-- s on: i there, then j; turned about -/
def rotK (p : Nat → Nat) (s i j : Nat) : Nat → Nat := fun k => if k < s then p k else if k < s + j then p (k + i) else if k < s + j + i then p (k - j) else p k
theorem rot_lo (h : x < s) : rotK p s a b x = p x := if_pos h
theorem rot_1 (h1 : s ≤ x) (h2 : x < s + b) : rotK p s a b x = p (x + a) := by unfold rotK; rw [if_neg (by omega), if_pos h2]
theorem rot_2 (h1 : s + b ≤ x) (h2 : x < s + b + a) : rotK p s a b x = p (x - b) := by unfold rotK; rw [if_neg (by omega), if_neg (by omega), if_pos h2]
theorem rot_hi (h : s + b + a ≤ x) : rotK p s a b x = p x := by unfold rotK; rw [if_neg (by omega), if_neg (by omega), if_neg (by omega)]
/-- n from a on and n from b on change places -/
def blcK (p : Nat → Nat) (a b n : Nat) : Nat → Nat := fun k => if a ≤ k ∧ k < a + n then p (k - a + b) else if b ≤ k ∧ k < b + n then p (k - b + a) else p k
def swpK (p : Nat → Nat) (a b : Nat) : Nat → Nat := fun k => if k = b then p a else if k = a then p b else p k
theorem blc_zero : blcK p a b 0 = p := by funext k; unfold blcK; rw [if_neg (by omega), if_neg (by omega)]
theorem blc_succ (h : a + n + 1 ≤ b) : swpK (blcK p a b n) (a + n) (b + n) = blcK p a b (n + 1) := by
  funext k
  unfold swpK blcK
  by_cases h1 : k = b + n
  · subst h1
    rw [if_pos rfl, if_neg (by omega), if_neg (by omega), if_neg (by omega), if_pos (by omega)]; congr 1; omega
  · rw [if_neg h1]
    by_cases h2 : k = a + n
    · subst h2
      rw [if_pos rfl, if_neg (by omega), if_neg (by omega), if_pos (by omega)]; congr 1; omega
    · rw [if_neg h2]
      by_cases h3 : a ≤ k ∧ k < a + n
      · rw [if_pos h3, if_pos (by omega)]
      · rw [if_neg h3, if_neg (c := a ≤ k ∧ k < a + (n + 1)) (by omega)]
        by_cases h4 : b ≤ k ∧ k < b + n
        · rw [if_pos h4, if_pos (by omega)]
        · rw [if_neg h4, if_neg (by omega)]
theorem rot_gt {i j : Nat} (h : j < i) : rotK (blcK p s (s + i) j) (s + j) (i - j) j = rotK p s i j := by
  funext k
  by_cases h1 : k < s
  · rw [rot_lo (by omega), rot_lo h1]; unfold blcK; rw [if_neg (by omega), if_neg (by omega)]
  · by_cases h2 : k < s + j
    · rw [rot_lo h2, rot_1 (by omega) h2]; unfold blcK; rw [if_pos (by omega)]; congr 1; omega
    · by_cases h3 : k < s + j + j
      · rw [rot_1 (by omega) h3, rot_2 (by omega) (by omega)]; unfold blcK; rw [if_neg (by omega), if_pos (by omega)]; congr 1; omega
      · by_cases h4 : k < s + j + i
        · rw [rot_2 (by omega) (by omega), rot_2 (by omega) h4]; unfold blcK; rw [if_neg (by omega), if_neg (by omega)]
        · rw [rot_hi (by omega), rot_hi (by omega)]; unfold blcK; rw [if_neg (by omega), if_neg (by omega)]
theorem rot_lt {i j : Nat} (h : i < j) : rotK (blcK p s (s + j) i) s i (j - i) = rotK p s i j := by
  funext k
  by_cases h1 : k < s
  · rw [rot_lo h1, rot_lo h1]; unfold blcK; rw [if_neg (by omega), if_neg (by omega)]
  · by_cases h2 : k < s + (j - i)
    · rw [rot_1 (by omega) h2, rot_1 (by omega) (by omega)]; unfold blcK; rw [if_neg (by omega), if_neg (by omega)]
    · by_cases h3 : k < s + j
      · rw [rot_2 (by omega) (by omega), rot_1 (by omega) h3]; unfold blcK; rw [if_pos (by omega)]; congr 1; omega
      · by_cases h4 : k < s + j + i
        · rw [rot_hi (by omega), rot_2 (by omega) h4]; unfold blcK; rw [if_neg (by omega), if_pos (by omega)]; congr 1; omega
        · rw [rot_hi (by omega), rot_hi (by omega)]; unfold blcK; rw [if_neg (by omega), if_neg (by omega)]
theorem rot_eq {i : Nat} : blcK p s (s + i) i = rotK p s i i := by
  funext k
  by_cases h1 : k < s
  · rw [rot_lo h1]; unfold blcK; rw [if_neg (by omega), if_neg (by omega)]
  · by_cases h2 : k < s + i
    · rw [rot_1 (by omega) h2]; unfold blcK; rw [if_pos (by omega)]; congr 1; omega
    · by_cases h3 : k < s + i + i
      · rw [rot_2 (by omega) h3]; unfold blcK; rw [if_neg (by omega), if_pos (by omega)]; congr 1; omega
      · rw [rot_hi (by omega)]; unfold blcK; rw [if_neg (by omega), if_neg (by omega)]
theorem rot_n0 : rotK p s n 0 = p := by
  funext k
  by_cases h1 : k < s
  · exact rot_lo h1
  · by_cases h2 : k < s + n
    · rw [rot_2 (by omega) (by omega)]; rfl
    · exact rot_hi (by omega)
theorem rot_0n : rotK p s 0 n = p := by
  funext k
  by_cases h1 : k < s
  · exact rot_lo h1
  · by_cases h2 : k < s + n
    · rw [rot_1 (by omega) (by omega)]; rfl
    · exact rot_hi (by omega)
/-- one is moved up by one more place -/
theorem rot_up : swpK (rotK p s 1 n) (s + n) (s + n + 1) = rotK p s 1 (n + 1) := by
  funext k
  unfold swpK
  by_cases h1 : k = s + n + 1
  · subst h1
    rw [if_pos rfl, rot_2 (by omega) (by omega), rot_2 (by omega) (by omega)]; congr 1; omega
  · rw [if_neg h1]
    by_cases h2 : k = s + n
    · subst h2
      rw [if_pos rfl, rot_hi (by omega), rot_1 (by omega) (by omega)]
    · rw [if_neg h2]
      by_cases h3 : k < s
      · rw [rot_lo h3, rot_lo h3]
      · by_cases h4 : k < s + n
        · rw [rot_1 (by omega) h4, rot_1 (by omega) (by omega)]
        · rw [rot_hi (by omega), rot_hi (by omega)]
/-- one is moved down by one more place -/
theorem rot_dn : swpK (rotK p (s + 1) n 1) (s + 1) s = rotK p s (n + 1) 1 := by
  funext k
  unfold swpK
  by_cases h1 : k = s
  · subst h1
    rw [if_pos rfl, rot_1 (by omega) (by omega), rot_1 (by omega) (by omega)]; congr 1; omega
  · rw [if_neg h1]
    by_cases h2 : k = s + 1
    · subst h2
      rw [if_pos rfl, rot_lo (by omega), rot_2 (by omega) (by omega)]; rfl
    · rw [if_neg h2]
      by_cases h3 : k < s
      · rw [rot_lo (by omega), rot_lo h3]
      · by_cases h4 : k < s + 1 + 1 + n
        · rw [rot_2 (by omega) h4, rot_2 (by omega) (by omega)]
        · rw [rot_hi (by omega), rot_hi (by omega)]
theorem rot_per {i j : Nat} (ha : a ≤ s) (hb : s + j + i ≤ b) : Per p (rotK p s i j) a b := by
  refine Per.wide (a := s) (b := s + j + i) ⟨fun k hk => ?_, fun x => ⟨?_, ?_⟩⟩ ha hb
  · rcases hk with h | h
    · exact rot_lo h
    · exact rot_hi h
  · rintro ⟨k, h1, h2, rfl⟩
    by_cases h3 : k < s + j
    · exact ⟨k + i, by omega, by omega, (rot_1 h1 h3).symm⟩
    · exact ⟨k - j, by omega, by omega, (rot_2 (by omega) h2).symm⟩
  · rintro ⟨k, h1, h2, rfl⟩
    by_cases h3 : k < s + i
    · exact ⟨k + j, by omega, by omega, by rw [rot_2 (by omega) (by omega)]; congr 1; omega⟩
    · exact ⟨k - i, by omega, by omega, by rw [rot_1 (by omega) (by omega)]; congr 1; omega⟩
/-- what stands from s to m goes behind what stands from m to e: what is left to be merged -/
theorem rot_half (h1 : a ≤ s) (h2 : s ≤ m) (h3 : m ≤ e) (h4 : e ≤ b) (A : Srt L p a m) (B : Srt L p m b) (S : Stb L p a m b) (hc : c = s + (e - m)) (x1 : s = a ∨ e = b ∨ ltK L (p (s - 1)) (p e)) (x2 : e = m ∨ s = m ∨ ltK L (p (e - 1)) (p s)) :
    let q := rotK p s (m - s) (e - m)
    Srt L q a s ∧ Srt L q s c ∧ Stb L q a s c ∧ Srt L q c e ∧ Srt L q e b ∧ Stb L q c e b ∧ Crs L q a c b := by
  intro q
  subst hc
  have q0 : ∀ k, k < s → q k = p k := fun k hk => rot_lo hk
  have q1 : ∀ k, s ≤ k → k < s + (e - m) → q k = p (k + (m - s)) := fun k hk hk2 => rot_1 hk hk2
  have q2 : ∀ k, s + (e - m) ≤ k → k < e → q k = p (k - (e - m)) := fun k hk hk2 => rot_2 hk (by omega)
  have q3 : ∀ k, e ≤ k → q k = p k := fun k hk => rot_hi (by omega)
  refine ⟨?_, ?_, ?_, ?_, ?_, ?_, ?_⟩
  · intro i j hi hij hj
    rw [q0 i (by omega), q0 j hj]; exact A i j hi hij (by omega)
  · intro i j hi hij hj
    rw [q1 i hi (by omega), q1 j (by omega) hj]; exact B _ _ (by omega) (by omega) (by omega)
  · intro i j hi his hsj hj
    rw [q0 i his, q1 j hsj hj]; exact S _ _ hi (by omega) (by omega) (by omega)
  · intro i j hi hij hj
    rw [q2 i hi (by omega), q2 j (by omega) hj]; exact A _ _ (by omega) (by omega) (by omega)
  · intro i j hi hij hj
    rw [q3 i hi, q3 j (by omega)]; exact B _ _ (by omega) hij hj
  · intro i j hi hie hej hj
    rw [q2 i hi hie, q3 j hej]; exact S _ _ (by omega) (by omega) (by omega) hj
  · have le1 : ∀ {P : Prop} {i j : Nat}, (a ≤ i ∧ i ≤ j ∧ j < m) → (i = j → P) → (ltK L (p i) (p j) → P) → P := fun {P} {i j} h f g => by
      by_cases hij : i = j
      · exact f hij
      · exact g (A i j h.1 (by omega) h.2.2)
    have le2 : ∀ {P : Prop} {i j : Nat}, (m ≤ i ∧ i ≤ j ∧ j < b) → (i = j → P) → (ltK L (p i) (p j) → P) → P := fun {P} {i j} h f g => by
      by_cases hij : i = j
      · exact f hij
      · exact g (B i j h.1 (by omega) h.2.2)
    intro i j hi hic hcj hj
    by_cases d1 : i < s
    · rw [q0 i d1]
      by_cases d2 : j < e
      · rw [q2 j hcj d2]; exact A _ _ hi (by omega) (by omega)
      · rw [q3 j (by omega)]
        have hx : ltK L (p (s - 1)) (p e) := by
          rcases x1 with h | h | h
          · omega
          · omega
          · exact h
        have hy : ltK L (p i) (p e) := le1 (i := i) (j := s - 1) ⟨hi, by omega, by omega⟩ (fun h => by rw [h]; exact hx) fun h => ltK_trans h hx
        exact le2 (i := e) (j := j) ⟨by omega, by omega, hj⟩ (fun h => by rw [← h]; exact hy) fun h => ltK_trans hy h
    · rw [q1 i (by omega) hic]
      by_cases d2 : j < e
      · rw [q2 j hcj d2]
        have hx : ltK L (p (e - 1)) (p s) := by
          rcases x2 with h | h | h
          · omega
          · omega
          · exact h
        have hy : ltK L (p (i + (m - s))) (p s) := le2 (i := i + (m - s)) (j := e - 1) ⟨by omega, by omega, by omega⟩ (fun h => by rw [h]; exact hx) fun h => ltK_trans h hx
        exact le1 (i := s) (j := j - (e - m)) ⟨by omega, by omega, by omega⟩ (fun h => by rw [← h]; exact hy) fun h => ltK_trans hy h
      · rw [q3 j (by omega)]; exact B _ _ (by omega) (by omega) hj
/-- one ahead: put in its place -/
theorem rot_one_up (h3 : a + 1 ≤ e) (h4 : e ≤ b) (B : Srt L p (a + 1) b) (x2 : e = a + 1 ∨ ltK L (p (e - 1)) (p a)) (x3 : e = b ∨ ltK L (p a) (p e)) : Srt L (rotK p a 1 (e - (a + 1))) a b := by
  have q1 : ∀ k, a ≤ k → k + 1 < e → rotK p a 1 (e - (a + 1)) k = p (k + 1) := fun k hk hk2 => rot_1 hk (by omega)
  have q2 : rotK p a 1 (e - (a + 1)) (e - 1) = p a := by rw [rot_2 (by omega) (by omega)]; congr 1; omega
  have q3 : ∀ k, e ≤ k → rotK p a 1 (e - (a + 1)) k = p k := fun k hk => rot_hi (by omega)
  intro i j hi hij hj
  by_cases d1 : i + 1 < e
  · rw [q1 i hi d1]
    by_cases d2 : j + 1 < e
    · rw [q1 j (by omega) d2]; exact B _ _ (by omega) (by omega) (by omega)
    · by_cases d3 : j = e - 1
      · rw [d3, q2]
        have hx := x2.resolve_left (by omega)
        by_cases d4 : i + 1 = e - 1
        · rw [d4]; exact hx
        · exact ltK_trans (B (i + 1) (e - 1) (by omega) (by omega) (by omega)) hx
      · rw [q3 j (by omega)]; exact B _ _ (by omega) (by omega) hj
  · by_cases d3 : i = e - 1
    · rw [d3, q2, q3 j (by omega)]
      have hx := x3.resolve_left (by omega)
      by_cases d4 : j = e
      · rw [d4]; exact hx
      · exact ltK_trans hx (B e j (by omega) (by omega) hj)
    · rw [q3 i (by omega), q3 j (by omega)]; exact B _ _ (by omega) hij hj
/-- one behind: put in its place -/
theorem rot_one_dn (h1 : a ≤ s) (h2 : s ≤ m) (A : Srt L p a m) (x1 : s = a ∨ ltK L (p (s - 1)) (p m)) (x3 : s = m ∨ ltK L (p m) (p s)) : Srt L (rotK p s (m - s) 1) a (m + 1) := by
  have q0 : ∀ k, k < s → rotK p s (m - s) 1 k = p k := fun k hk => rot_lo hk
  have q1 : rotK p s (m - s) 1 s = p m := by rw [rot_1 (by omega) (by omega)]; congr 1; omega
  have q2 : ∀ k, s < k → k ≤ m → rotK p s (m - s) 1 k = p (k - 1) := fun k hk hk2 => rot_2 (by omega) (by omega)
  intro i j hi hij hj
  by_cases d1 : i < s
  · rw [q0 i d1]
    by_cases d2 : j < s
    · rw [q0 j d2]; exact A _ _ hi hij (by omega)
    · by_cases d3 : j = s
      · rw [d3, q1]
        have hx := x1.resolve_left (by omega)
        by_cases d4 : i = s - 1
        · rw [d4]; exact hx
        · exact ltK_trans (A i (s - 1) hi (by omega) (by omega)) hx
      · rw [q2 j (by omega) (by omega)]; exact A _ _ hi (by omega) (by omega)
  · by_cases d3 : i = s
    · rw [d3, q1, q2 j (by omega) (by omega)]
      have hx := x3.resolve_left (by omega)
      by_cases d4 : j - 1 = s
      · rw [d4]; exact hx
      · exact ltK_trans hx (A s (j - 1) (by omega) (by omega) (by omega))
    · rw [q2 i (by omega) (by omega), q2 j (by omega) (by omega)]; exact A _ _ (by omega) (by omega) (by omega)
/-- in order up to i, but for place j, which comes ahead of those behind it -/
def MidK (L : List Wri) (p : Nat → Nat) (a i j : Nat) : Prop := (∀ x y, a ≤ x → x < y → y ≤ i → x ≠ j → y ≠ j → ltK L (p x) (p y)) ∧ ∀ y, j < y → y ≤ i → ltK L (p j) (p y)
theorem swp_1 : swpK p (n + 1) n n = p (n + 1) := if_pos rfl
theorem swp_2 : swpK p (n + 1) n (n + 1) = p n := by unfold swpK; rw [if_neg (by omega), if_pos rfl]
theorem swp_o (h1 : x ≠ n) (h2 : x ≠ n + 1) : swpK p (n + 1) n x = p x := by unfold swpK; rw [if_neg h1, if_neg h2]
theorem midK_swp {i : Nat} (M : MidK L p a i (n + 1)) (h0 : a ≤ n) (hj : n + 1 ≤ i) (hlt : ltK L (p (n + 1)) (p n)) : MidK L (swpK p (n + 1) n) a i n := by
  constructor
  · intro x y hx hxy hy hx1 hy1
    by_cases e1 : y = n + 1
    · rw [e1, swp_2, swp_o hx1 (by omega)]
      exact M.1 x n hx (by omega) (by omega) (by omega) (by omega)
    · rw [swp_o hy1 e1]
      by_cases e2 : x = n + 1
      · rw [e2, swp_2]; exact M.1 n y h0 (by omega) hy (by omega) e1
      · rw [swp_o hx1 e2]; exact M.1 x y hx hxy hy e2 e1
  · intro y h1 h2
    rw [swp_1]
    by_cases e : y = n + 1
    · rw [e, swp_2]; exact hlt
    · rw [swp_o (by omega) e]; exact M.2 y (by omega) h2
theorem midK_done {i j : Nat} (M : MidK L p a i j) (hj : j ≤ i) (h : j = a ∨ ltK L (p (j - 1)) (p j)) (ha : a ≤ j) : Srt L p a (i + 1) := by
  intro x y hx hxy hy
  by_cases e1 : x = j
  · rw [e1]; exact M.2 y (by omega) (by omega)
  · by_cases e2 : y = j
    · rw [e2] at hxy ⊢
      have h := h.resolve_left (by omega)
      by_cases e3 : x = j - 1
      · rw [e3]; exact h
      · exact ltK_trans (M.1 x (j - 1) hx (by omega) (by omega) e1 (by omega)) h
    · exact M.1 x y hx hxy (by omega) e1 e2
theorem swp_per (h0 : a ≤ n) (hb : n + 1 < b) : Per p (swpK p (n + 1) n) a b := by
  constructor
  · intro k hk; exact swp_o (by omega) (by omega)
  · intro x
    constructor
    · rintro ⟨k, h1, h2, rfl⟩
      by_cases e1 : k = n
      · exact ⟨n + 1, by omega, by omega, by rw [e1, swp_1]⟩
      · by_cases e2 : k = n + 1
        · exact ⟨n, by omega, by omega, by rw [e2, swp_2]⟩
        · exact ⟨k, h1, h2, (swp_o e1 e2).symm⟩
    · rintro ⟨k, h1, h2, rfl⟩
      by_cases e1 : k = n
      · exact ⟨n + 1, by omega, by omega, by rw [e1, swp_2]⟩
      · by_cases e2 : k = n + 1
        · exact ⟨n, by omega, by omega, by rw [e2, swp_1]⟩
        · exact ⟨k, h1, h2, swp_o e1 e2⟩
def rwK (L : List Wri) (p : Nat → Nat) (n : Nat) : List Wri := (List.range n).map fun i => L.getD (p i) default
theorem rwK_len : (rwK L p n).length = n := by simp [rwK]
theorem rwK_getD (h : x < n) : (rwK L p n).getD x default = L.getD (p x) default := by simp [rwK, List.getD, h]
theorem rwK_set : ((rwK L p n).set a (L.getD (p b) default)).set b (L.getD (p a) default) = rwK L (swpK p a b) n := by
  refine List.ext_getElem (by simp [rwK]) fun i h1 h2 => ?_
  simp only [rwK, List.getElem_set, List.getElem_map, List.getElem_range, swpK]
  by_cases e : b = i
  · subst e; simp
  · rw [if_neg e, if_neg (Ne.symm e)]
    by_cases e2 : a = i
    · subst e2; simp
    · rw [if_neg e2, if_neg (Ne.symm e2)]
theorem rwK_id : rwK L (fun i => i) L.length = L := by
  refine List.ext_getElem (by simp [rwK]) fun i h1 h2 => ?_
  simp [rwK, List.getD, h2]
end
end Go.Ev

set_option maxRecDepth 100000
set_option maxHeartbeats 8000000
set_option linter.all false
namespace Go.Ev
open Go
theorem store_bufN {h : H} {el n : Nat} {v : V} {xs ys vs : List V} {j : Nat} (b : Buf h el n v xs) (tp : Top h v) (hj : j + vs.length ≤ xs.length) (hfit : xs.length < 2 ^ 36) (h1 : allOne vs = true) (hv : 0 < vs.length) (hly : ys.length = xs.length)
    (hys : ∀ i z, ys[i]? = some z → (j ≤ i ∧ vs[i - j]? = some z) ∨ ((i < j ∨ j + vs.length ≤ i) ∧ xs[i]? = some z)) :
    ∃ h', (∀ k, store h (lid v) (lg v) (loff v + j) (lfin v) vs k = k h') ∧ Buf h' el n v ys ∧ Top h' v ∧ Stay (isOf v) h h' := by
  rcases b with ⟨rfl, rfl⟩ | ⟨id, g, m, blk, rfl, b1, b2, b3, b4, b5, b6, b7, b8, b9, b10⟩
  · simp at hj; rw [hj.2] at hv; cases hv
  obtain ⟨blk', b5', hcur⟩ := tp id g 0 m xs.length none rfl
  have hbb : blk' = blk := by rw [b5] at b5'; exact (Option.some.inj b5').symm
  subst hbb
  obtain ⟨next, floor, heap⟩ := h
  obtain ⟨cur, min, sz, cells, bel, fr⟩ := blk'
  simp only at b6 b7 b8 b9 b10 hcur
  subst hcur; subst b9
  obtain ⟨tr, t1, t2, t3⟩ := setList_fine vs j cells (by omega)
  obtain ⟨hp, s1, s2, s3⟩ := setK_ok id (⟨cur, cur, sz, tr, bel, 0⟩ : Blk) heap
  have e1 : B.geB floor id = true := by cases floor <;> first | rfl | (show Nat.ble _ _ = true; rw [Nat.ble_eq]; exact b3)
  have e2 : Nat.ble (Nat.add j vs.length) xs.length = true := by rw [Nat.ble_eq]; exact hj
  have e4 : frOk 0 j = true := rfl
  have e5 : Nat.beq cur cur = true := Nat.beq_refl cur
  have e6 : Nat.ble min cur = true := by rw [Nat.ble_eq]; exact b6.1
  have b5'' : heap.get id = some ⟨cur, min, sz, cells, bel, 0⟩ := b5
  refine ⟨⟨next, floor, hp⟩, fun k => ?_, .inr ⟨id, cur, m, _, by rw [hly], b1, by rw [hly]; exact b2, b3, b4, s2, ⟨Nat.le_refl _, Nat.le_refl _⟩, by rw [hly]; exact b7, b8, rfl, fun i z hz => ?_⟩, fun _ _ _ _ _ _ e => by cases e; exact ⟨_, s2, rfl⟩, ⟨rfl, Nat.le_refl _, fun id' _ hne => s3 id' fun e => hne (by subst e; exact ⟨_, _, _, _, _, rfl⟩)⟩⟩
  · show store ⟨next, floor, heap⟩ id cur (0 + j) xs.length vs k = _
    rw [Nat.zero_add]
    simp only [store, hK_mk, b5'', optK_some, blkK_mk, e5, e6, e1, e2, h1, e4, ifK_true]
    rw [t1, s1]
  · show tr.getN i = some z
    rcases hys i z hz with ⟨h2, h3⟩ | ⟨h2, h3⟩
    · have := t2 (i - j) z h3
      rwa [show j + (i - j) = i by omega] at this
    · rw [t3 i (by omega)]
      exact b10 i z h3
theorem set_cells {α : Type} [Inhabited α] {n : Nat} {c : α → List V} (hc : ∀ e, (c e).length = n) (hn : 1 ≤ n) {L : List α} {j : Nat} (hj : j < L.length) {x : α} : ∀ i z, ((L.set j x).flatMap c)[i]? = some z → (j * n ≤ i ∧ (c x)[i - j * n]? = some z) ∨ ((i < j * n ∨ j * n + (c x).length ≤ i) ∧ (L.flatMap c)[i]? = some z) := by
  intro i z hz
  have hil : i < L.length * n := by
    have h1 := (List.getElem?_eq_some_iff.1 hz).1
    rw [fm_len hc, List.length_set] at h1; exact h1
  have hd : i % n < n := Nat.mod_lt _ hn
  have hi : i = i / n * n + i % n := by rw [Nat.mul_comm]; exact (Nat.div_add_mod i n).symm
  have hq : i / n < L.length := (Nat.div_lt_iff_lt_mul hn).2 hil
  generalize i / n = q at *
  generalize i % n = d at *
  subst hi
  rw [fm_get hc (by rw [List.length_set]; exact hq) hd] at hz
  by_cases e : q = j
  · left
    subst e
    refine ⟨by omega, ?_⟩
    rw [show q * n + d - q * n = d by omega, ← hz]
    have : (L.set q x).getD q default = x := by simp [List.getD, hq]
    rw [this]
    have hdl : d < (c x).length := by rw [hc]; exact hd
    simp [List.getD, hdl]
  · right
    rw [fm_get hc hq hd, ← hz]
    refine ⟨?_, ?_⟩
    · rw [hc]
      rcases Nat.lt_or_gt_of_ne e with h | h
      · left
        have : (q + 1) * n ≤ j * n := Nat.mul_le_mul_right n h
        rw [Nat.add_mul] at this; omega
      · right
        have : (j + 1) * n ≤ q * n := Nat.mul_le_mul_right n h
        rw [Nat.add_mul] at this; omega
    · have : (L.set j x).getD q default = L.getD q default := by
        rw [List.getD_eq_getElem?_getD, List.getElem?_set_ne (fun h => e h.symm), ← List.getD_eq_getElem?_getD]
      rw [this]
/-- l[j] = x, of structs, where l grew and is the newest of its block -/
theorem st_bufS {P : Program} {α : Type} [Inhabited α] {n el : Nat} {c : α → List V} {h : H} {N : Nx} {v : V} {L : List α} {j : Nat} {x : α} (b : Buf h el n v (L.flatMap c)) (tp : Top h v) (hc : ∀ e, (c e).length = n) (hn : 1 ≤ n) (hj : j < L.length) (hl : L.length * n < 2 ^ 36) (h1 : allOne (c x) = true)
    (k : ∀ h', Buf h' el n v ((L.set j x).flatMap c) → Top h' v → Stay (isOf v) h h' → N.go P (.tu []) h') : ST P n (.p (lid v) (lg v) (loff v + j * n) (lfin v)) (.a (c x)) h N := by
  have hjn : (j + 1) * n ≤ L.length * n := Nat.mul_le_mul_right n hj
  rw [Nat.add_mul] at hjn
  obtain ⟨h', a1, a2, a3, a4⟩ := store_bufN (j := j * n) (vs := c x) (ys := (L.set j x).flatMap c) b tp (by rw [hc, fm_len hc]; omega) (by rw [fm_len hc]; exact hl) h1 (by rw [hc]; omega) (by rw [fm_len hc, fm_len hc, List.length_set]) (set_cells hc hn hj)
  refine hm_of (v := .tu []) (h' := h') (fun k => ?_) (k h' a2 a3 a4)
  show ifK (Nat.beq (c x).length n) (fun _ => store h _ _ _ _ (c x) fun h => k (.tu []) h) = _
  rw [hc, Nat.beq_refl, ifK_true, a1]
end Go.Ev

set_option linter.all false
namespace Go.Ev
open Go
/-- less of a block's cells -/
theorem Own.pre {h : H} {id : B} {xs ys : List V} (o : Own h id (xs ++ ys)) : Own h id xs := by
  obtain ⟨blk, h1, h2, h3, h4, h5, h6, h7⟩ := o
  refine ⟨blk, h1, h2, h3, h4, h5, h6, fun i y hy => h7 i y ?_⟩
  have hi := (List.getElem?_eq_some_iff.1 hy).1
  rw [List.getElem?_append_left hi]; exact hy
theorem Own.none {h : H} {id : B} {xs : List V} (o : Own h id xs) : Own h id [] := Own.pre (xs := []) (ys := xs) o
/-- cells stored behind those that are known -/
theorem store_end {h : H} {id : B} {xs vs : List V} {fin : Nat} (o : Own h id xs) (hj : xs.length + vs.length ≤ fin) (hfit : fin < 2 ^ 37) (h1 : allOne vs = true) : ∃ h', (∀ k, store h id 0 xs.length fin vs k = k h') ∧ Own h' id (xs ++ vs) ∧ Stay (fun i => i = id) h h' := by
  obtain ⟨blk, a1, a2, a3, a4, a5, a6, a7⟩ := o
  obtain ⟨next, floor, heap⟩ := h
  obtain ⟨cur, min, sz, cells, bel, fr⟩ := blk
  simp only at a2 a3 a4 a7
  subst a2; subst a3; subst a4
  obtain ⟨tr, t1, t2, t3⟩ := setList_fine vs xs.length cells (by omega)
  obtain ⟨hp, s1, s2, s3⟩ := setK_ok id (⟨0, 0, sz, tr, bel, 0⟩ : Blk) heap
  have e1 : B.geB floor id = true := by cases floor <;> first | rfl | (show Nat.ble _ _ = true; rw [Nat.ble_eq]; exact a5)
  have e2 : Nat.ble (Nat.add xs.length vs.length) fin = true := by rw [Nat.ble_eq]; exact hj
  have e4 : frOk 0 xs.length = true := rfl
  have e5 : Nat.beq 0 0 = true := rfl
  have e6 : Nat.ble 0 0 = true := rfl
  have a1' : heap.get id = some ⟨0, 0, sz, cells, bel, 0⟩ := a1
  refine ⟨⟨next, floor, hp⟩, fun k => ?_, ⟨_, s2, rfl, rfl, rfl, a5, a6, fun i z hz => ?_⟩, ⟨rfl, Nat.le_refl _, fun i _ hi => s3 i hi⟩⟩
  · simp only [store, hK_mk, a1', optK_some, blkK_mk, e5, e6, e1, e2, h1, e4, ifK_true]
    rw [t1, s1]
  · show tr.getN i = some z
    by_cases hi : i < xs.length
    · rw [List.getElem?_append_left hi] at hz
      rw [t3 i (by omega)]; exact a7 i z hz
    · rw [List.getElem?_append_right (by omega)] at hz
      have := t2 _ z hz
      rwa [show xs.length + (i - xs.length) = i by omega] at this
section
variable {P : Program} {h : H} {N : Nx} {id : B} {el size cnt len c : Nat} {x : V} {xs vs : List V}
/-- in place: there is room -/
theorem AP.made (o : Own h id xs) (hlen : xs.length = len * size) (hx : ∀ k : Nat → List V → Bool, newCells size x h k = k cnt vs) (hn : vs.length = cnt * size) (h1 : allOne vs = true) (hc : len + cnt ≤ c) (hfit : c * size < 2 ^ 37) (hcb : c < 18446744073709551616)
    (k : ∀ h', Own h' id (xs ++ vs) → Stay (fun i => i = id) h h' → N.go P (.l id 0 0 (len + cnt) (c * size) (some c)) h') : AP P el size (.l id 0 0 len (c * size) (some c)) x h N := by
  have hle : Nat.ble (Nat.add len cnt) c = true := by rw [Nat.ble_eq]; exact hc
  have hmul := Nat.mul_le_mul_right size hc
  rw [Nat.add_mul] at hmul
  cases cnt with
  | zero =>
    have hv : vs = [] := List.eq_nil_of_length_eq_zero (by rw [hn, Nat.zero_mul])
    subst hv
    refine hm_of (v := .l id 0 0 (len + 0) (c * size) (some c)) (h' := h) (fun q => ?_) (k h (by rw [List.append_nil]; exact o) ⟨rfl, Nat.le_refl _, fun _ _ _ => rfl⟩)
    rw [hx]
    show boolK (flagB c) _ (fun _ => boolK (Nat.ble (Nat.add len 0) c) (fun _ => appIn id 0 0 len (c * size) c size 0 [] h q) _) = _
    rw [flagB_of hcb, boolK_false, hle]; rfl
  | succ m =>
    obtain ⟨h', a1, a2, a3⟩ := store_end o (vs := vs) (fin := c * size) (by omega) hfit h1
    refine hm_of (v := .l id 0 0 (len + (m + 1)) (c * size) (some c)) (h' := h') (fun q => ?_) (k h' a2 a3)
    rw [hx]
    show boolK (flagB c) _ (fun _ => boolK (Nat.ble (Nat.add len (m + 1)) c) (fun _ => appIn id 0 0 len (c * size) c size (m + 1) vs h q) _) = _
    rw [flagB_of hcb, boolK_false, hle]
    show store h id 0 (Nat.add 0 (Nat.mul len size)) (c * size) vs (fun h => fN (Nat.add len (m + 1)) fun l' => q (.l id 0 0 l' (c * size) (some c)) h) = _
    rw [show Nat.add 0 (Nat.mul len size) = xs.length by rw [hlen]; show 0 + len * size = _; omega, a1, fN_eq]
    rfl
/-- append(S{}, s...): a new block, or the empty one -/
theorem AP.e1 {g off fin : Nat} (hx : ∀ k : Nat → List V → Bool, newCells size x h k = k cnt vs) (hf : B.val h.floor ≤ B.val h.next) (hn : vs.length = cnt * size) (hl : cnt ≤ 1048576) (hl2 : vs.length < 2 ^ 38)
    (k0 : cnt = 0 → N.go P (.l id g off 0 fin (some 0)) h)
    (k : ∀ h', 1 ≤ cnt → Stay nowhere h h' → B.val h'.next = B.val h.next + 1 → Buf h' el size (.l h.next 0 0 cnt vs.length none) vs → Top h' (.l h.next 0 0 cnt vs.length none) → N.go P (.l h.next 0 0 cnt vs.length none) h') : AP P el size (.l id g off 0 fin (some 0)) x h N := by
  cases cnt with
  | zero =>
    have hv : vs = [] := List.eq_nil_of_length_eq_zero (by rw [hn, Nat.zero_mul])
    subst hv
    exact hm_of (v := .l id g off 0 fin (some 0)) (h' := h) (fun q => by rw [hx]; rfl) (k0 rfl)
  | succ m =>
  obtain ⟨h', a1, a2, a3, blk, b1, b2, b3, b4, b5, b6, b7⟩ := alloc_new el vs h hl2
  have hble : Nat.ble (Nat.add 0 (m + 1)) 1048576 = true := by rw [Nat.ble_eq]; show 0 + (m + 1) ≤ _; omega
  have hno : Nat.ble (Nat.add 0 (m + 1)) 0 = false := by
    cases hx : Nat.ble (Nat.add 0 (m + 1)) 0 with
    | false => rfl
    | true => have := Nat.le_of_ble_eq_true hx; have h2 : 0 + (m + 1) ≤ 0 := this; omega
  refine hm_of (v := .l h.next 0 0 (m + 1) vs.length none) (h' := h') (fun q => ?_) (k h' (by omega) a2 a3 (.inr ⟨h.next, 0, m + 1, blk, rfl, by omega, hn, by rw [a2.floor]; exact hf, by omega, b1, ⟨by omega, by omega⟩, b4, b5, b6, b7⟩) ?_)
  · rw [hx]
    show boolK (flagB 0) (fun _ => appGrow (selB (Nat.ble 1 0) (Nat.beq size 1)) el id g off 0 fin size (m + 1) vs h q) (fun _ => boolK (Nat.ble (Nat.add 0 (m + 1)) 0) (fun _ => appIn id g off 0 fin 0 size (m + 1) vs h q) fun _ => appOut el id g off 0 fin size (m + 1) vs h q) = _
    rw [flagB_of (by omega), boolK_false, hno, boolK_false]
    unfold appOut
    rw [hble, ifK_true]
    show alloc el (app [] vs) h (fun id h => fN (Nat.add 0 (m + 1)) fun l' => fN (Nat.mul l' size) fun fin' => q (.l id 0 0 l' fin' none) h) = _
    rw [app_eq, List.nil_append, a1, fN_eq, fN_eq]
    show q (.l h.next 0 0 (0 + (m + 1)) ((0 + (m + 1)) * size) none) h' = _
    rw [Nat.zero_add, ← hn]
  · intro id' g off n fin cap e
    cases e
    exact ⟨blk, b1, b3⟩
end
end Go.Ev

set_option maxRecDepth 100000
set_option maxHeartbeats 8000000
set_option linter.all false
namespace Go.Proofs.Ythncpgkpkdolfaa
open Go Go.Ev
theorem cloneW0_ok {h : H} : FnOk Try.prog 38 [.l0] h fun y h' => y = .l0 ∧ h' = h := by
  refine fn_go c38 (by intro hb; cases hb) (by simp) (by simp) fun Q hQ => ?_
  simp only [slotsF, Nat.reduceAdd]
  repeat' (first
    | refine St.h ?_
    | simp (disch := first | omega | (simp only [lnv]; omega)) only [wlk, ↓get_put', ↓reduceIte, seval]
    | (with_reducible (first | apply cd_split | apply gd_split)) <;> (intro hc; (try simp only [hcn] at hc); (try simp only [hc]); (try simp only [hcl] at hc); try omega))
  subst hQ
  exact ⟨rfl, rfl⟩
/-- a row of one's own that is the newest of its block -/
def Rw (h : H) (v : V) (M : List Wri) : Prop := Buf h 49 3 v (M.flatMap wriC) ∧ Top h v
theorem Rw.ws {h : H} {v : V} {M : List Wri} (a : Rw h v M) : Ws h v M := Ss.buf a.1 rfl wriC_len (by omega)
theorem Rw.grow {h h' : H} {v : V} {M : List Wri} (a : Rw h v M) (s : Stay nowhere h h') : Rw h' v M := ⟨a.1.grow s, a.2.stay s (fun q hq => (a.1.own hq).2) fun _ _ e => e⟩
/-- what comes of a clone of writes -/
def ClW (h h' : H) (y : V) (L : List Wri) : Prop := (L = [] ∧ Ws h' y [] ∧ SwN 3 y) ∨ (L ≠ [] ∧ Rw h' y L ∧ SwN 3 y ∧ ∀ q, isOf y q → B.val h.next ≤ B.val q)
theorem cloneW1_ok {h : H} {id : B} {gg off len fin : Nat} {cap : Option Nat} {L : List Wri} (hL : Ws h (.l id gg off len fin cap) L) (hl : L.length ≤ 100000) (hf : B.val h.floor ≤ B.val h.next) : FnOk Try.prog 38 [.l id gg off len fin cap] h fun y h' => ClW h h' y L ∧ Stay nowhere h h' := by
  refine fn_go c38 (by intro hb; cases hb) (by simp) (by simp) fun Q hQ => ?_
  simp only [slotsF, Nat.reduceAdd]
  repeat' (first
    | refine St.h ?_
    | simp (disch := first | omega | (simp only [lnv]; omega)) only [wlk, ↓get_put', ↓reduceIte, seval]
    | (with_reducible (first | apply cd_split | apply gd_split)) <;> (intro hc; (try simp only [hcn] at hc); (try simp only [hc]); (try simp only [hcl] at hc); try omega))
  refine AL.own (by simp) hf fun h1 s1 n1 o1 => ?_
  have hf1 := s1.fl hf
  repeat' (first
    | refine St.h ?_
    | simp (disch := first | omega | (simp only [lnv]; omega)) only [wlk, ↓get_put', ↓reduceIte, seval]
    | (with_reducible (first | apply cd_split | apply gd_split)) <;> (intro hc; (try simp only [hcn] at hc); (try simp only [hc]); (try simp only [hcl] at hc); try omega))
  refine AP.e1 (new_ss (hL.grow s1) wriC_len (by omega)) hf1 (fm_len wriC_len L) (by omega) (by rw [fm_len wriC_len L]; omega) (fun e => ?_) fun h2 e s2 n2 b2 tp2 => ?_
  · have : L = [] := List.eq_nil_of_length_eq_zero e
    subst this
    repeat' (first
      | refine St.h ?_
      | simp (disch := first | omega | (simp only [lnv]; omega)) only [wlk, ↓get_put', ↓reduceIte, seval]
      | (with_reducible (first | apply cd_split | apply gd_split)) <;> (intro hc; (try simp only [hcn] at hc); (try simp only [hc]); (try simp only [hcl] at hc); try omega))
    subst hQ
    exact ⟨.inl ⟨rfl, Ss.lit o1 rfl wriC_len rfl (by simp), .inr ⟨_, _, _, _, _, _, rfl, by simp⟩⟩, s1⟩
  · repeat' (first
      | refine St.h ?_
      | simp (disch := first | omega | (simp only [lnv]; omega)) only [wlk, ↓get_put', ↓reduceIte, seval]
      | (with_reducible (first | apply cd_split | apply gd_split)) <;> (intro hc; (try simp only [hcn] at hc); (try simp only [hc]); (try simp only [hcl] at hc); try omega))
    subst hQ
    refine ⟨.inr ⟨fun e2 => by rw [e2] at e; simp at e, ⟨b2, tp2⟩, swn_buf12 b2, ?_⟩, s1.trans s2⟩
    rintro q ⟨_, _, _, _, _, e⟩
    cases e; exact s1.next
theorem cloneW_ok {h : H} {v : V} {L : List Wri} (hL : Ws h v L) (hl : L.length ≤ 100000) (hf : B.val h.floor ≤ B.val h.next) : FnOk Try.prog 38 [v] h fun y h' => ClW h h' y L ∧ Stay nowhere h h' := by
  have hL0 := hL
  rcases hL with ⟨rfl, rfl⟩ | ⟨id, gg, off, fin, cap, rfl, hh⟩
  · exact cloneW0_ok.mono fun y h' ⟨a, b⟩ => by rw [a, b]; exact ⟨.inl ⟨rfl, Ss.nil, .inl rfl⟩, Stay.refl _ _⟩
  · exact cloneW1_ok hL0 hl hf
theorem bcmp_ok {h : H} {x y : List UInt8} : FnOk Try.prog 59 [sv x, sv y] h fun z h' => z = .i .i64 (cmpI (decide (x = y)) (Op.bytesLess x y)) ∧ h' = h := by
  refine fn_go c59 (by intro hb; cases hb) (by simp) (by simp) fun Q hQ => ?_
  simp only [slotsF, Nat.reduceAdd]
  repeat' (first
    | refine St.h ?_
    | simp (disch := first | omega | (simp only [lnv]; omega)) only [wlk, ↓get_put', ↓reduceIte, seval]
    | (with_reducible (first | apply cd_split | apply gd_split)) <;> (intro hc; (try simp only [hcn] at hc); (try simp only [hc]); (try simp only [hcl] at hc); try omega))
  subst hQ
  exact ⟨rfl, rfl⟩
theorem scompare_ok {h : H} {x y : List UInt8} : FnOk Try.prog 52 [sv x, sv y] h fun z h' => z = .i .i64 (cmpI (decide (x = y)) (Op.bytesLess x y)) ∧ h' = h := by
  refine fn_go c52 (by intro hb; cases hb) (by simp) (by simp) fun Q hQ => ?_
  simp only [slotsF, Nat.reduceAdd]
  repeat' (first
    | refine St.h ?_
    | simp (disch := first | omega | (simp only [lnv]; omega)) only [wlk, ↓get_put', ↓reduceIte, seval]
    | (with_reducible (first | apply cd_split | apply gd_split)) <;> (intro hc; (try simp only [hcn] at hc); (try simp only [hc]); (try simp only [hcl] at hc); try omega))
  refine CL.pure bcmp_ok ?_
  repeat' (first
    | refine St.h ?_
    | simp (disch := first | omega | (simp only [lnv]; omega)) only [wlk, ↓get_put', ↓reduceIte, seval]
    | (with_reducible (first | apply cd_split | apply gd_split)) <;> (intro hc; (try simp only [hcn] at hc); (try simp only [hc]); (try simp only [hcl] at hc); try omega))
  subst hQ
  exact ⟨rfl, rfl⟩
def cmpW (a b : Wri) : Int := cmpI (decide (a.key = b.key)) (Op.bytesLess a.key b.key)
theorem cmpW_t {L : List Wri} {x y : Nat} (h : klK L x y = true) : (cmpW (L.getD x default) (L.getD y default) < 0) = True := by
  unfold klK at h
  unfold cmpW; rw [h, decide_eq_false (bl_ne h)]; exact eq_true (by decide)
theorem cmpW_f {L : List Wri} {x y : Nat} (h : klK L x y = false) : (cmpW (L.getD x default) (L.getD y default) < 0) = False := by
  unfold klK at h
  unfold cmpW; rw [h]
  by_cases e : (L.getD x default).key = (L.getD y default).key
  · rw [decide_eq_true e]; exact eq_false (by decide)
  · rw [decide_eq_false e]; exact eq_false (by decide)
theorem byKey12_ok {h : H} {a b : Wri} (hf : B.val h.floor ≤ B.val h.next) : FnOk Try.prog 40 [.a [sv a.key, .b a.del, sv a.val], .a [sv b.key, .b b.del, sv b.val]] h fun y h' => y = .i .i64 (cmpW a b) ∧ Stay nowhere h h' := by
  refine fn_go c40 (by intro hb; cases hb) (by simp) (by simp) fun Q hQ => ?_
  simp only [slotsF, Nat.reduceAdd]
  repeat' (first
    | refine St.h ?_
    | simp (disch := first | omega | (simp only [lnv]; omega)) only [wlk, ↓get_put', ↓reduceIte, seval]
    | (with_reducible (first | apply cd_split | apply gd_split)) <;> (intro hc; (try simp only [hcn] at hc); (try simp only [hc]); (try simp only [hcl] at hc); try omega))
  refine AL.own (by simp) hf fun h1 s1 n1 o1 => ?_
  repeat' (first
    | refine St.h ?_
    | simp (disch := first | omega | (simp only [lnv]; omega)) only [wlk, ↓get_put', ↓reduceIte, seval]
    | (with_reducible (first | apply cd_split | apply gd_split)) <;> (intro hc; (try simp only [hcn] at hc); (try simp only [hc]); (try simp only [hcl] at hc); try omega))
  refine AL.own (by simp) (s1.fl hf) fun h2 s2 n2 o2 => ?_
  have o1 := o1.stay s2 fun h => h
  repeat' (first
    | refine St.h ?_
    | simp (disch := first | omega | (simp only [lnv]; omega)) only [wlk, ↓get_put', ↓reduceIte, seval, o1.row.l1, o2.row.l1]
    | (with_reducible (first | apply cd_split | apply gd_split)) <;> (intro hc; (try simp only [hcn] at hc); (try simp only [hc]); (try simp only [hcl] at hc); try omega))
  refine CL.pure scompare_ok ?_
  repeat' (first
    | refine St.h ?_
    | simp (disch := first | omega | (simp only [lnv]; omega)) only [wlk, ↓get_put', ↓reduceIte, seval]
    | (with_reducible (first | apply cd_split | apply gd_split)) <;> (intro hc; (try simp only [hcn] at hc); (try simp only [hc]); (try simp only [hcl] at hc); try omega))
  subst hQ
  exact ⟨rfl, s1.trans s2⟩
section
variable {L : List Wri} {N : Nat} {c : V}
theorem swapR_ok {h : H} {v : V} {p : Nat → Nat} {a b k : Nat} (hb : Rw h v (rwK L p N)) (hN : N ≤ 1000) (h1 : a + k ≤ b) (h2 : b + k ≤ N) (hf : B.val h.floor ≤ B.val h.next) : FnOk Try.prog 62 [v, .i .i64 (a : Int), .i .i64 (b : Int), .i .i64 (k : Int), c] h fun y h' =>
    Rw h' v (rwK L (blcK p a b k) N) ∧ Stay (isOf v) h h' := by
  refine fn_go c62 (by intro hb; cases hb) (by simp) (by simp) fun Q hQ => ?_
  simp only [slotsF, Nat.reduceAdd]
  repeat' (first
    | refine St.h ?_
    | simp (disch := first | omega | (simp only [lnv]; omega)) only [wlk, ↓get_put', ↓reduceIte, seval]
    | (with_reducible (first | apply cd_split | apply gd_split)) <;> (intro hc; (try simp only [hcn] at hc); (try simp only [hc]); (try simp only [hcl] at hc); try omega))
  refine Ok.lp (fun m t g => ∃ i : Nat, m = k - i ∧ i ≤ k ∧ get 0 t = v ∧ get 1 t = .i .i64 (a : Int) ∧ get 2 t = .i .i64 (b : Int) ∧ get 3 t = .i .i64 (k : Int) ∧ get 10 t = .i .i64 (i : Int) ∧ Rw g v (rwK L (blcK p a b i) N) ∧ Stay (isOf v) h g) k ?_ ?_
  · simp (disch := first | omega | (simp only [lnv]; omega)) only [wlk, ↓get_put', ↓reduceIte, seval]
    refine ⟨0, by omega, by omega, ?_⟩
    refine ⟨?_, ?_, ?_, ?_, ?_, by rw [blc_zero]; exact hb, ⟨rfl, Nat.le_refl _, fun _ _ _ => rfl⟩⟩
    all_goals first | trivial | rfl
  rintro I hI m t g ⟨i, rfl, hi, f0, f1, f2, f3, f10, rb, st⟩
  have hfg := st.fl hf
  by_cases hik : i < k
  case neg =>
    obtain rfl : i = k := by omega
    repeat' (first
      | refine St.h ?_
      | simp (disch := first | omega | (simp only [lnv]; omega)) only [wlk, ↓get_put', ↓reduceIte, seval, f0, f1, f2, f3, f10]
      | (with_reducible (first | apply cd_split | apply gd_split)) <;> (intro hc; (try simp only [hcn] at hc); (try simp only [hc]); (try simp only [hcl] at hc); try omega))
    subst hQ
    exact ⟨rb, st⟩
  have ea : ((a : Int) + (i : Int)).toNat = a + i := by omega
  have eb : ((b : Int) + (i : Int)).toNat = b + i := by omega
  have W1 := rb.ws
  have ln : (rwK L (blcK p a b i) N).length = N := rwK_len
  have ga : (rwK L (blcK p a b i) N).getD (a + i) default = L.getD (blcK p a b i (a + i)) default := rwK_getD (by omega)
  have gb : (rwK L (blcK p a b i) N).getD (b + i) default = L.getD (blcK p a b i (b + i)) default := rwK_getD (by omega)
  repeat' (first
    | refine St.h ?_
    | simp (disch := first | omega | (simp only [lnv]; omega)) only [wlk, ↓get_put', ↓reduceIte, seval, f0, f1, f2, f3, f10, W1.ix, W1.la, ea, eb, ga, gb, Int.toNat_natCast]
    | (with_reducible (first | apply cd_split | apply gd_split)) <;> (intro hc; (try simp only [hcn] at hc); (try simp only [hc]); (try simp only [hcl] at hc); try omega))
  refine st_bufS (c := wriC) (x := L.getD (blcK p a b i (b + i)) default) rb.1 rb.2 wriC_len (by omega) (by omega) (by omega) rfl fun h3 B3 T3 s3 => ?_
  have W3 : Ws h3 v ((rwK L (blcK p a b i) N).set (a + i) (L.getD (blcK p a b i (b + i)) default)) := Ss.buf B3 rfl wriC_len (by omega)
  repeat' (first
    | refine St.h ?_
    | simp (disch := first | omega | (simp only [lnv]; omega)) only [wlk, ↓get_put', ↓reduceIte, seval, f0, f1, f2, f3, f10, eb, W3.ix]
    | (with_reducible (first | apply cd_split | apply gd_split)) <;> (intro hc; (try simp only [hcn] at hc); (try simp only [hc]); (try simp only [hcl] at hc); try omega))
  refine st_bufS (c := wriC) (x := L.getD (blcK p a b i (a + i)) default) B3 T3 wriC_len (by omega) (by rw [List.length_set]; omega) (by rw [List.length_set]; omega) rfl fun h4 B4 T4 s4 => ?_
  rw [rwK_set, blc_succ (by omega)] at B4
  repeat' (first
    | refine St.h ?_
    | simp (disch := first | omega | (simp only [lnv]; omega)) only [wlk, ↓get_put', ↓reduceIte, seval, f0, f1, f2, f3, f10]
    | (with_reducible (first | apply cd_split | apply gd_split)) <;> (intro hc; (try simp only [hcn] at hc); (try simp only [hc]); (try simp only [hcl] at hc); try omega))
  refine lp_next hI (k - (i + 1)) (by omega) ⟨i + 1, rfl, by omega, by simp (disch := first | omega | (simp only [lnv]; omega)) only [wlk, ↓get_put', ↓reduceIte, seval, f0], by simp (disch := first | omega | (simp only [lnv]; omega)) only [wlk, ↓get_put', ↓reduceIte, seval, f1], by simp (disch := first | omega | (simp only [lnv]; omega)) only [wlk, ↓get_put', ↓reduceIte, seval, f2], by simp (disch := first | omega | (simp only [lnv]; omega)) only [wlk, ↓get_put', ↓reduceIte, seval, f3], by simp (disch := first | omega | (simp only [lnv]; omega)) only [wlk, ↓get_put', ↓reduceIte, seval, f10]; rfl, ⟨B4, T4⟩, st.trans (s3.trans s4)⟩
theorem rot_ok {h : H} {v : V} {p : Nat → Nat} {a m b : Nat} (hb : Rw h v (rwK L p N)) (hN : N ≤ 1000) (h1 : a < m) (h2 : m < b) (h3 : b ≤ N) (hf : B.val h.floor ≤ B.val h.next) : FnOk Try.prog 60 [v, .i .i64 (a : Int), .i .i64 (m : Int), .i .i64 (b : Int), c] h fun y h' =>
    Rw h' v (rwK L (rotK p a (m - a) (b - m)) N) ∧ Stay (isOf v) h h' := by
  have e1 : (m : Int) - (a : Int) = ((m - a : Nat) : Int) := by omega
  have e2 : (b : Int) - (m : Int) = ((b - m : Nat) : Int) := by omega
  refine fn_go c60 (by intro hb; cases hb) (by simp) (by simp) fun Q hQ => ?_
  simp only [slotsF, Nat.reduceAdd]
  repeat' (first
    | refine St.h ?_
    | simp (disch := first | omega | (simp only [lnv]; omega)) only [wlk, ↓get_put', ↓reduceIte, seval]
    | (with_reducible (first | apply cd_split | apply gd_split)) <;> (intro hc; (try simp only [hcn] at hc); (try simp only [hc]); (try simp only [hcl] at hc); try omega))
  refine Ok.lp (fun k t g => ∃ (i j : Nat) (q : Nat → Nat), k = i + j ∧ 1 ≤ i ∧ 1 ≤ j ∧ i ≤ m - a ∧ j ≤ b - m ∧ get 0 t = v ∧ get 2 t = .i .i64 (m : Int) ∧ get 4 t = c ∧ get 10 t = .i .i64 (i : Int) ∧ get 11 t = .i .i64 (j : Int) ∧ rotK q (m - i) i j = rotK p a (m - a) (b - m) ∧ Rw g v (rwK L q N) ∧ Stay (isOf v) h g) (b - a) ?_ ?_
  · simp (disch := first | omega | (simp only [lnv]; omega)) only [wlk, ↓get_put', ↓reduceIte, seval, e1, e2]
    refine ⟨m - a, b - m, p, by omega, by omega, by omega, by omega, by omega, ?_⟩
    refine ⟨?_, ?_, ?_, ?_, ?_, by rw [show m - (m - a) = a by omega], hb, ⟨rfl, Nat.le_refl _, fun _ _ _ => rfl⟩⟩
    all_goals first | trivial | rfl
  rintro I hI k t g ⟨i, j, q, rfl, hi, hj, hi2, hj2, f0, f2, f4, f10, f11, hr, rb, st⟩
  have hfg := st.fl hf
  have em : (m : Int) - (i : Int) = ((m - i : Nat) : Int) := by omega
  by_cases hij : i = j
  · subst hij
    have d1 : ((i : Int) = (i : Int)) = True := eq_true rfl
    repeat' (first
      | refine St.h ?_
      | simp (disch := first | omega | (simp only [lnv]; omega)) only [wlk, ↓get_put', ↓reduceIte, seval, f0, f2, f4, f10, f11, d1, em]
      | (with_reducible (first | apply cd_split | apply gd_split)) <;> (intro hc; (try simp only [hcn] at hc); (try simp only [hc]); (try simp only [hcl] at hc); try omega))
    refine CL.mk (swapR_ok (c := c) (a := m - i) (b := m) (k := i) rb hN (by omega) (by omega) hfg) ?_
    rintro y g1 ⟨rb1, s1⟩
    repeat' (first
      | refine St.h ?_
      | simp (disch := first | omega | (simp only [lnv]; omega)) only [wlk, ↓get_put', ↓reduceIte, seval]
      | (with_reducible (first | apply cd_split | apply gd_split)) <;> (intro hc; (try simp only [hcn] at hc); (try simp only [hc]); (try simp only [hcl] at hc); try omega))
    subst hQ
    have := rot_eq (p := q) (s := m - i) (i := i)
    rw [show m - i + i = m by omega, hr] at this
    rw [this] at rb1
    exact ⟨rb1, st.trans s1⟩
  have d1 : ((i : Int) = (j : Int)) = False := eq_false (by omega)
  by_cases hgt : j < i
  · have d2 : ((j : Int) < (i : Int)) = True := eq_true (by omega)
    have e3 : (i : Int) - (j : Int) = ((i - j : Nat) : Int) := by omega
    repeat' (first
      | refine St.h ?_
      | simp (disch := first | omega | (simp only [lnv]; omega)) only [wlk, ↓get_put', ↓reduceIte, seval, f0, f2, f4, f10, f11, d1, d2, em]
      | (with_reducible (first | apply cd_split | apply gd_split)) <;> (intro hc; (try simp only [hcn] at hc); (try simp only [hc]); (try simp only [hcl] at hc); try omega))
    refine CL.mk (swapR_ok (c := c) (a := m - i) (b := m) (k := j) rb hN (by omega) (by omega) hfg) ?_
    rintro y g1 ⟨rb1, s1⟩
    repeat' (first
      | refine St.h ?_
      | simp (disch := first | omega | (simp only [lnv]; omega)) only [wlk, ↓get_put', ↓reduceIte, seval, f0, f2, f4, f10, f11]
      | (with_reducible (first | apply cd_split | apply gd_split)) <;> (intro hc; (try simp only [hcn] at hc); (try simp only [hc]); (try simp only [hcl] at hc); try omega))
    refine lp_next hI (i - j + j) (by omega) ⟨i - j, j, _, rfl, by omega, by omega, by omega, by omega, by simp (disch := first | omega | (simp only [lnv]; omega)) only [wlk, ↓get_put', ↓reduceIte, seval, f0], by simp (disch := first | omega | (simp only [lnv]; omega)) only [wlk, ↓get_put', ↓reduceIte, seval, f2], by simp (disch := first | omega | (simp only [lnv]; omega)) only [wlk, ↓get_put', ↓reduceIte, seval, f4], by simp (disch := first | omega | (simp only [lnv]; omega)) only [wlk, ↓get_put', ↓reduceIte, seval, e3], by simp (disch := first | omega | (simp only [lnv]; omega)) only [wlk, ↓get_put', ↓reduceIte, seval, f11], ?_, rb1, st.trans s1⟩
    have := rot_gt (p := q) (s := m - i) hgt
    rw [show m - i + i = m by omega, show m - i + j = m - (i - j) by omega] at this
    rw [this]; exact hr
  · have d2 : ((j : Int) < (i : Int)) = False := eq_false (by omega)
    have e3 : (j : Int) - (i : Int) = ((j - i : Nat) : Int) := by omega
    have e4 : (m : Int) + (j : Int) - (i : Int) = ((m + j - i : Nat) : Int) := by omega
    repeat' (first
      | refine St.h ?_
      | simp (disch := first | omega | (simp only [lnv]; omega)) only [wlk, ↓get_put', ↓reduceIte, seval, f0, f2, f4, f10, f11, d1, d2, em, e4]
      | (with_reducible (first | apply cd_split | apply gd_split)) <;> (intro hc; (try simp only [hcn] at hc); (try simp only [hc]); (try simp only [hcl] at hc); try omega))
    refine CL.mk (swapR_ok (c := c) (a := m - i) (b := m + j - i) (k := i) rb hN (by omega) (by omega) hfg) ?_
    rintro y g1 ⟨rb1, s1⟩
    repeat' (first
      | refine St.h ?_
      | simp (disch := first | omega | (simp only [lnv]; omega)) only [wlk, ↓get_put', ↓reduceIte, seval, f0, f2, f4, f10, f11]
      | (with_reducible (first | apply cd_split | apply gd_split)) <;> (intro hc; (try simp only [hcn] at hc); (try simp only [hc]); (try simp only [hcl] at hc); try omega))
    refine lp_next hI (i + (j - i)) (by omega) ⟨i, j - i, _, rfl, by omega, by omega, by omega, by omega, by simp (disch := first | omega | (simp only [lnv]; omega)) only [wlk, ↓get_put', ↓reduceIte, seval, f0], by simp (disch := first | omega | (simp only [lnv]; omega)) only [wlk, ↓get_put', ↓reduceIte, seval, f2], by simp (disch := first | omega | (simp only [lnv]; omega)) only [wlk, ↓get_put', ↓reduceIte, seval, f4], by simp (disch := first | omega | (simp only [lnv]; omega)) only [wlk, ↓get_put', ↓reduceIte, seval, f10], by simp (disch := first | omega | (simp only [lnv]; omega)) only [wlk, ↓get_put', ↓reduceIte, seval, e3], ?_, rb1, st.trans s1⟩
    have := rot_lt (p := q) (s := m - i) (show i < j by omega)
    rw [show m - i + j = m + j - i by omega] at this
    rw [this]; exact hr
theorem isortW_ok {h : H} {v : V} {p : Nat → Nat} {a b : Nat} (hb : Rw h v (rwK L p N)) (hN : N ≤ 1000) (h1 : a ≤ b) (h2 : b ≤ N) (hp : ∀ k, a ≤ k → k < b → p k = k) (hf : B.val h.floor ≤ B.val h.next) : FnOk Try.prog 57 [v, .i .i64 (a : Int), .i .i64 (b : Int), .f 40 []] h fun y h' =>
    ∃ q, Per p q a b ∧ Srt L q a b ∧ Rw h' v (rwK L q N) ∧ Stay (isOf v) h h' := by
  refine fn_go c57 (by intro hb; cases hb) (by simp) (by simp) fun Q hQ => ?_
  simp only [slotsF, Nat.reduceAdd]
  repeat' (first
    | refine St.h ?_
    | simp (disch := first | omega | (simp only [lnv]; omega)) only [wlk, ↓get_put', ↓reduceIte, seval]
    | (with_reducible (first | apply cd_split | apply gd_split)) <;> (intro hc; (try simp only [hcn] at hc); (try simp only [hc]); (try simp only [hcl] at hc); try omega))
  by_cases hab : a < b
  case neg =>
    refine Ok.lp (fun m t g => m = 0 ∧ h = g ∧ get 2 t = .i .i64 (b : Int) ∧ get 8 t = .i .i64 ((a : Int) + 1)) 0 ?_ ?_
    · simp (disch := first | omega | (simp only [lnv]; omega)) only [wlk, ↓get_put', ↓reduceIte, seval]
      repeat' (first | trivial | rfl | refine And.intro ?_ ?_)
    rintro I hI m t g ⟨rfl, rfl, f2, f8⟩
    have d1 : ((a : Int) + 1 < (b : Int)) = False := eq_false (by omega)
    repeat' (first
      | refine St.h ?_
      | simp (disch := first | omega | (simp only [lnv]; omega)) only [wlk, ↓get_put', ↓reduceIte, seval, f2, f8, d1]
      | (with_reducible (first | apply cd_split | apply gd_split)) <;> (intro hc; (try simp only [hcn] at hc); (try simp only [hc]); (try simp only [hcl] at hc); try omega))
    subst hQ
    exact ⟨p, Per.refl, fun i j h1 h2 h3 => by omega, hb, ⟨rfl, Nat.le_refl _, fun _ _ _ => rfl⟩⟩
  refine Ok.lp (fun m t g => ∃ (i : Nat) (q : Nat → Nat), m = b - i ∧ a + 1 ≤ i ∧ i ≤ b ∧ get 0 t = v ∧ get 1 t = .i .i64 (a : Int) ∧ get 2 t = .i .i64 (b : Int) ∧ get 3 t = .f 40 [] ∧ get 8 t = .i .i64 (i : Int) ∧ Per p q a i ∧ Srt L q a i ∧ Rw g v (rwK L q N) ∧ Stay (isOf v) h g) (b - (a + 1)) ?_ ?_
  · simp (disch := first | omega | (simp only [lnv]; omega)) only [wlk, ↓get_put', ↓reduceIte, seval]
    refine ⟨a + 1, p, by omega, by omega, by omega, ?_⟩
    refine ⟨?_, ?_, ?_, ?_, ?_, Per.refl, fun i j h1 h2 h3 => by omega, hb, ⟨rfl, Nat.le_refl _, fun _ _ _ => rfl⟩⟩
    all_goals first | trivial | rfl
  rintro I hI m t g ⟨i, q, rfl, hi1, hi2, f0, f1, f2, f3, f8, hper, hs, rb, st⟩
  have hfg := st.fl hf
  by_cases hib : i < b
  case neg =>
    obtain rfl : i = b := by omega
    repeat' (first
      | refine St.h ?_
      | simp (disch := first | omega | (simp only [lnv]; omega)) only [wlk, ↓get_put', ↓reduceIte, seval, f0, f1, f2, f3, f8]
      | (with_reducible (first | apply cd_split | apply gd_split)) <;> (intro hc; (try simp only [hcn] at hc); (try simp only [hc]); (try simp only [hcl] at hc); try omega))
    subst hQ
    exact ⟨q, hper, hs, rb, st⟩
  have hqi : q i = i := by rw [hper.out i (.inr (Nat.le_refl _)), hp i (by omega) hib]
  have hql : ∀ k, a ≤ k → k < i → q k < i := fun k k1 k2 => by
    obtain ⟨j, j1, j2, j3⟩ := (hper.mem (q k)).1 ⟨k, k1, k2, rfl⟩
    rw [← j3, hp j j1 (by omega)]; exact j2
  repeat' (first
    | refine St.h ?_
    | simp (disch := first | omega | (simp only [lnv]; omega)) only [wlk, ↓get_put', ↓reduceIte, seval, f0, f1, f2, f3, f8]
    | (with_reducible (first | apply cd_split | apply gd_split)) <;> (intro hc; (try simp only [hcn] at hc); (try simp only [hc]); (try simp only [hcl] at hc); try omega))
  refine Ok.lp (fun m t g => ∃ (j : Nat) (q : Nat → Nat), m = j ∧ a ≤ j ∧ j ≤ i ∧ get 0 t = v ∧ get 1 t = .i .i64 (a : Int) ∧ get 2 t = .i .i64 (b : Int) ∧ get 3 t = .f 40 [] ∧ get 8 t = .i .i64 (i : Int) ∧ get 9 t = .i .i64 (j : Int) ∧ MidK L q a i j ∧ Per p q a (i + 1) ∧ q j = i ∧ (∀ k, a ≤ k → k ≤ i → k ≠ j → q k < i) ∧ Rw g v (rwK L q N) ∧ Stay (isOf v) h g) i ?_ ?_
  · simp (disch := first | omega | (simp only [lnv]; omega)) only [wlk, ↓get_put', ↓reduceIte, seval, f0, f1, f2, f3, f8]
    refine ⟨i, q, by omega, by omega, by omega, ?_⟩
    refine ⟨?_, ?_, ?_, ?_, ?_, ?_, ⟨fun x y x1 x2 x3 x4 x5 => hs x y x1 x2 (by omega), fun y y1 y2 => by omega⟩, hper.wide (Nat.le_refl _) (by omega), hqi, fun k k1 k2 k3 => hql k k1 (by omega), rb, st⟩
    all_goals first | trivial | rfl
  rintro I2 hI2 m2 t2 g2 ⟨j, q2, rfl, hj1, hj2, e0, e1, e2, e3, e8, e9, hM, hper2, hqj, hql2, rb2, st2⟩
  have hfg2 := st2.fl hf
  have done : ∀ g3, Rw g3 v (rwK L q2 N) → Stay (isOf v) h g3 → (m2 = a ∨ ltK L (q2 (m2 - 1)) (q2 m2)) → ∀ t3 : F, get 0 t3 = v → get 1 t3 = .i .i64 (a : Int) → get 2 t3 = .i .i64 (b : Int) → get 3 t3 = .f 40 [] → get 8 t3 = .i .i64 ((i + 1 : Nat) : Int) → LpG I (b - i) t3 g3 := fun g3 r3 s3 hd t3 x0 x1 x2 x3 x8 => by
    exact lp_next hI (b - (i + 1)) (by omega) ⟨i + 1, q2, rfl, by omega, by omega, x0, x1, x2, x3, x8, hper2, midK_done hM hj2 hd hj1, r3, s3⟩
  by_cases hja : a < m2
  case neg =>
    obtain rfl : m2 = a := by omega
    have d1 : ((m2 : Int) < (m2 : Int)) = False := eq_false (by omega)
    repeat' (first
      | refine St.h ?_
      | simp (disch := first | omega | (simp only [lnv]; omega)) only [wlk, ↓get_put', ↓reduceIte, seval, e0, e1, e2, e3, e8, e9, d1]
      | (with_reducible (first | apply cd_split | apply gd_split)) <;> (intro hc; (try simp only [hcn] at hc); (try simp only [hc]); (try simp only [hcl] at hc); try omega))
    exact done _ rb2 st2 (.inl rfl) _ (by simp (disch := first | omega | (simp only [lnv]; omega)) only [wlk, ↓get_put', ↓reduceIte, seval, e0]) (by simp (disch := first | omega | (simp only [lnv]; omega)) only [wlk, ↓get_put', ↓reduceIte, seval, e1]) (by simp (disch := first | omega | (simp only [lnv]; omega)) only [wlk, ↓get_put', ↓reduceIte, seval, e2]) (by simp (disch := first | omega | (simp only [lnv]; omega)) only [wlk, ↓get_put', ↓reduceIte, seval, e3]) (by simp (disch := first | omega | (simp only [lnv]; omega)) only [wlk, ↓get_put', ↓reduceIte, seval, e8]; rfl)
  have d1 : ((a : Int) < (m2 : Int)) = True := eq_true (by omega)
  obtain ⟨n, rfl⟩ : ∃ n, m2 = n + 1 := ⟨m2 - 1, by omega⟩
  have en : (((n + 1 : Nat) : Int) - 1).toNat = n := by omega
  have W2 := rb2.ws
  have ln : (rwK L q2 N).length = N := rwK_len
  have ga : (rwK L q2 N).getD (n + 1) default = L.getD (q2 (n + 1)) default := rwK_getD (by omega)
  have gb : (rwK L q2 N).getD n default = L.getD (q2 n) default := rwK_getD (by omega)
  repeat' (first
    | refine St.h ?_
    | simp (disch := first | omega | (simp only [lnv]; omega)) only [wlk, ↓get_put', ↓reduceIte, seval, e0, e1, e2, e3, e8, e9, d1, W2.ix, W2.la, en, ga, gb, Int.toNat_natCast]
    | (with_reducible (first | apply cd_split | apply gd_split)) <;> (intro hc; (try simp only [hcn] at hc); (try simp only [hc]); (try simp only [hcl] at hc); try omega))
  refine CL.stay (byKey12_ok (a := L.getD (q2 (n + 1)) default) (b := L.getD (q2 n) default) hfg2) fun g3 s3 => ?_
  have rb3 := rb2.grow s3
  have st3 := st2.trans (s3.mono fun _ _ hq => hq.elim)
  have W3 := rb3.ws
  cases hk : klK L (q2 (n + 1)) (q2 n) with
  | false =>
    have d2 := cmpW_f hk
    repeat' (first
      | refine St.h ?_
      | simp (disch := first | omega | (simp only [lnv]; omega)) only [wlk, ↓get_put', ↓reduceIte, seval, e0, e1, e2, e3, e8, e9, d1, d2]
      | (with_reducible (first | apply cd_split | apply gd_split)) <;> (intro hc; (try simp only [hcn] at hc); (try simp only [hc]); (try simp only [hcl] at hc); try omega))
    refine done _ rb3 st3 (.inr (ltK_no hk fun _ => ?_)) _ (by simp (disch := first | omega | (simp only [lnv]; omega)) only [wlk, ↓get_put', ↓reduceIte, seval, e0]) (by simp (disch := first | omega | (simp only [lnv]; omega)) only [wlk, ↓get_put', ↓reduceIte, seval, e1]) (by simp (disch := first | omega | (simp only [lnv]; omega)) only [wlk, ↓get_put', ↓reduceIte, seval, e2]) (by simp (disch := first | omega | (simp only [lnv]; omega)) only [wlk, ↓get_put', ↓reduceIte, seval, e3]) (by simp (disch := first | omega | (simp only [lnv]; omega)) only [wlk, ↓get_put', ↓reduceIte, seval, e8]; rfl)
    rw [hqj]; exact hql2 n (by omega) (by omega) (by omega)
  | true =>
    have d2 := cmpW_t hk
    repeat' (first
      | refine St.h ?_
      | simp (disch := first | omega | (simp only [lnv]; omega)) only [wlk, ↓get_put', ↓reduceIte, seval, e0, e1, e2, e3, e8, e9, d1, d2, W3.ix, W3.la, en, ga, gb, Int.toNat_natCast]
      | (with_reducible (first | apply cd_split | apply gd_split)) <;> (intro hc; (try simp only [hcn] at hc); (try simp only [hc]); (try simp only [hcl] at hc); try omega))
    refine st_bufS (c := wriC) (x := L.getD (q2 n) default) rb3.1 rb3.2 wriC_len (by omega) (by omega) (by omega) rfl fun h3 B3 T3 s4 => ?_
    have W4 : Ws h3 v ((rwK L q2 N).set (n + 1) (L.getD (q2 n) default)) := Ss.buf B3 rfl wriC_len (by omega)
    repeat' (first
      | refine St.h ?_
      | simp (disch := first | omega | (simp only [lnv]; omega)) only [wlk, ↓get_put', ↓reduceIte, seval, e0, e1, e2, e3, e8, e9, en, W4.ix]
      | (with_reducible (first | apply cd_split | apply gd_split)) <;> (intro hc; (try simp only [hcn] at hc); (try simp only [hc]); (try simp only [hcl] at hc); try omega))
    refine st_bufS (c := wriC) (x := L.getD (q2 (n + 1)) default) B3 T3 wriC_len (by omega) (by rw [List.length_set]; omega) (by rw [List.length_set]; omega) rfl fun h4 B4 T4 s5 => ?_
    rw [rwK_set] at B4
    repeat' (first
      | refine St.h ?_
      | simp (disch := first | omega | (simp only [lnv]; omega)) only [wlk, ↓get_put', ↓reduceIte, seval, e0, e1, e2, e3, e8, e9]
      | (with_reducible (first | apply cd_split | apply gd_split)) <;> (intro hc; (try simp only [hcn] at hc); (try simp only [hc]); (try simp only [hcl] at hc); try omega))
    refine lp_next hI2 n (by omega) ⟨n, swpK q2 (n + 1) n, rfl, by omega, by omega, by simp (disch := first | omega | (simp only [lnv]; omega)) only [wlk, ↓get_put', ↓reduceIte, seval, e0], by simp (disch := first | omega | (simp only [lnv]; omega)) only [wlk, ↓get_put', ↓reduceIte, seval, e1], by simp (disch := first | omega | (simp only [lnv]; omega)) only [wlk, ↓get_put', ↓reduceIte, seval, e2], by simp (disch := first | omega | (simp only [lnv]; omega)) only [wlk, ↓get_put', ↓reduceIte, seval, e3], by simp (disch := first | omega | (simp only [lnv]; omega)) only [wlk, ↓get_put', ↓reduceIte, seval, e8], by simp (disch := first | omega | (simp only [lnv]; omega)) only [wlk, ↓get_put', ↓reduceIte, seval, e9]; congr 1; omega, midK_swp hM (by omega) hj2 (ltK_kl hk), hper2.trans (swp_per (by omega) (by omega)), by rw [swp_1]; exact hqj, fun k k1 k2 k3 => ?_, ⟨B4, T4⟩, st3.trans (s4.trans s5)⟩
    by_cases e : k = n + 1
    · rw [e, swp_2]; exact hql2 n (by omega) (by omega) (by omega)
    · rw [swp_o k3 e]; exact hql2 k k1 k2 e
end
end Go.Proofs.Ythncpgkpkdolfaa

set_option maxRecDepth 100000
set_option maxHeartbeats 8000000
set_option linter.all false
namespace Go.Proofs.Ythncpgkpkdolfaa
open Go Go.Ev
section
variable {L : List Wri} {N : Nat}
def SmOk (L : List Wri) (N : Nat) (K : Nat) : Prop := ∀ {h : H} {v : V} {p : Nat → Nat} {a m b : Nat}, b - a < K → Rw h v (rwK L p N) → a < m → m < b → b ≤ N → Srt L p a m → Srt L p m b → Stb L p a m b → B.val h.floor ≤ B.val h.next →
  FnOk Try.prog 58 [v, .i .i64 (a : Int), .i .i64 (m : Int), .i .i64 (b : Int), .f 40 []] h fun y h' => ∃ q, Per p q a b ∧ Srt L q a b ∧ Rw h' v (rwK L q N) ∧ Stay (isOf v) h h'
theorem sm_up {h : H} {v : V} {p : Nat → Nat} {a b : Nat} (hN : N ≤ 1000) (rb : Rw h v (rwK L p N)) (h1 : a + 1 < b) (h2 : b ≤ N) (Bs : Srt L p (a + 1) b) (S : Stb L p a (a + 1) b) (hf : B.val h.floor ≤ B.val h.next) :
    FnOk Try.prog 58 [v, .i .i64 (a : Int), .i .i64 ((a + 1 : Nat) : Int), .i .i64 (b : Int), .f 40 []] h fun y h' => ∃ q, Per p q a b ∧ Srt L q a b ∧ Rw h' v (rwK L q N) ∧ Stay (isOf v) h h' := by
  have d0 : (((a + 1 : Nat) : Int) - (a : Int) = 1) = True := eq_true (by omega)
  have ln : ∀ q : Nat → Nat, (rwK L q N).length = N := fun q => rwK_len
  refine fn_go c58 (by intro hb; cases hb) (by simp) (by simp) fun Q hQ => ?_
  simp only [slotsF, Nat.reduceAdd]
  repeat' (first
    | refine St.h ?_
    | simp (disch := first | omega | (simp only [lnv]; omega)) only [wlk, ↓get_put', ↓reduceIte, seval, d0]
    | (with_reducible (first | apply cd_split | apply gd_split)) <;> (intro hc; (try simp only [hcn] at hc); (try simp only [hc]); (try simp only [hcl] at hc); try omega))
  refine Ok.lp (fun k t g => ∃ i j : Nat, k = j - i ∧ a + 1 ≤ i ∧ i ≤ j ∧ j ≤ b ∧ (i = a + 1 ∨ klK L (p (i - 1)) (p a) = true) ∧ (j = b ∨ klK L (p j) (p a) = false) ∧ get 0 t = v ∧ get 1 t = .i .i64 (a : Int) ∧ get 4 t = .f 40 [] ∧ get 10 t = .i .i64 (i : Int) ∧ get 11 t = .i .i64 (j : Int) ∧ Rw g v (rwK L p N) ∧ Stay (isOf v) h g) (b - (a + 1)) ?_ ?_
  · simp (disch := first | omega | (simp only [lnv]; omega)) only [wlk, ↓get_put', ↓reduceIte, seval]
    refine ⟨a + 1, b, by omega, by omega, by omega, by omega, .inl rfl, .inl rfl, ?_⟩
    refine ⟨?_, ?_, ?_, ?_, ?_, rb, ⟨rfl, Nat.le_refl _, fun _ _ _ => rfl⟩⟩
    all_goals first | trivial | rfl
  rintro I hI k t g ⟨i, j, rfl, hi, hij, hj, x2, x3, f0, f1, f4, f10, f11, rb, st⟩
  have hfg := st.fl hf
  have W1 := rb.ws
  have ga : (rwK L p N).getD a default = L.getD (p a) default := rwK_getD (by omega)
  by_cases hlt : i < j
  case pos =>
    have hm : ((i : Int) + (j : Int)).toNat / 2 = (i + j) / 2 := by omega
    have hm2 : ((i : Int) + (j : Int)) / 2 = (((i + j) / 2 : Nat) : Int) := by omega
    have gb : (rwK L p N).getD ((i + j) / 2) default = L.getD (p ((i + j) / 2)) default := rwK_getD (by omega)
    have d1 : ((i : Int) < (j : Int)) = True := eq_true (by omega)
    have l1 := ln p
    repeat' (first
      | refine St.h ?_
      | simp (disch := first | omega | (simp only [lnv]; omega)) only [wlk, ↓get_put', ↓reduceIte, seval, f0, f1, f4, f10, f11, d1, hm, hm2, W1.ix, W1.la, ga, gb, Int.toNat_natCast]
      | (with_reducible (first | apply cd_split | apply gd_split)) <;> (intro hc; (try simp only [hcn] at hc); (try simp only [hc]); (try simp only [hcl] at hc); try omega))
    refine CL.stay (byKey12_ok (a := L.getD (p ((i + j) / 2)) default) (b := L.getD (p a) default) hfg) fun g3 s3 => ?_
    have rb3 := rb.grow s3
    have st3 := st.trans (s3.mono fun _ _ hq => hq.elim)
    cases hk : klK L (p ((i + j) / 2)) (p a) with
    | true =>
      have d2 := cmpW_t hk
      repeat' (first
        | refine St.h ?_
        | simp (disch := first | omega | (simp only [lnv]; omega)) only [wlk, ↓get_put', ↓reduceIte, seval, f0, f1, f4, f10, f11, d2]
        | (with_reducible (first | apply cd_split | apply gd_split)) <;> (intro hc; (try simp only [hcn] at hc); (try simp only [hc]); (try simp only [hcl] at hc); try omega))
      refine lp_next hI (j - ((i + j) / 2 + 1)) (by omega) ⟨(i + j) / 2 + 1, j, rfl, by omega, by omega, by omega, .inr (by rw [Nat.add_sub_cancel]; exact hk), x3, by simp (disch := first | omega | (simp only [lnv]; omega)) only [wlk, ↓get_put', ↓reduceIte, seval, f0], by simp (disch := first | omega | (simp only [lnv]; omega)) only [wlk, ↓get_put', ↓reduceIte, seval, f1], by simp (disch := first | omega | (simp only [lnv]; omega)) only [wlk, ↓get_put', ↓reduceIte, seval, f4], by simp (disch := first | omega | (simp only [lnv]; omega)) only [wlk, ↓get_put', ↓reduceIte, seval]; rfl, by simp (disch := first | omega | (simp only [lnv]; omega)) only [wlk, ↓get_put', ↓reduceIte, seval, f11], rb3, st3⟩
    | false =>
      have d2 := cmpW_f hk
      repeat' (first
        | refine St.h ?_
        | simp (disch := first | omega | (simp only [lnv]; omega)) only [wlk, ↓get_put', ↓reduceIte, seval, f0, f1, f4, f10, f11, d2]
        | (with_reducible (first | apply cd_split | apply gd_split)) <;> (intro hc; (try simp only [hcn] at hc); (try simp only [hc]); (try simp only [hcl] at hc); try omega))
      refine lp_next hI ((i + j) / 2 - i) (by omega) ⟨i, (i + j) / 2, rfl, by omega, by omega, by omega, x2, .inr hk, by simp (disch := first | omega | (simp only [lnv]; omega)) only [wlk, ↓get_put', ↓reduceIte, seval, f0], by simp (disch := first | omega | (simp only [lnv]; omega)) only [wlk, ↓get_put', ↓reduceIte, seval, f1], by simp (disch := first | omega | (simp only [lnv]; omega)) only [wlk, ↓get_put', ↓reduceIte, seval, f4], by simp (disch := first | omega | (simp only [lnv]; omega)) only [wlk, ↓get_put', ↓reduceIte, seval, f10], by simp (disch := first | omega | (simp only [lnv]; omega)) only [wlk, ↓get_put', ↓reduceIte, seval], rb3, st3⟩
  obtain rfl : i = j := by omega
  have y2 : i = a + 1 ∨ ltK L (p (i - 1)) (p a) := x2.imp id fun e => ltK_kl e
  have y3 : i = b ∨ ltK L (p a) (p i) := by
    by_cases e : i = b
    · exact .inl e
    · exact .inr (ltK_no (x3.resolve_left e) fun e2 => S a i (Nat.le_refl _) (by omega) hi (by omega) e2)
  have d1 : ((i : Int) < (i : Int)) = False := eq_false (by omega)
  have sq := rot_one_up hi hj Bs y2 y3
  repeat' (first
    | refine St.h ?_
    | simp (disch := first | omega | (simp only [lnv]; omega)) only [wlk, ↓get_put', ↓reduceIte, seval, f0, f1, f4, f10, f11, d1]
    | (with_reducible (first | apply cd_split | apply gd_split)) <;> (intro hc; (try simp only [hcn] at hc); (try simp only [hc]); (try simp only [hcl] at hc); try omega))
  refine Ok.lp (fun k t g => ∃ z : Nat, k = i - z ∧ a + z + 1 ≤ i ∧ get 0 t = v ∧ get 10 t = .i .i64 (i : Int) ∧ get 13 t = .i .i64 ((a + z : Nat) : Int) ∧ Rw g v (rwK L (rotK p a 1 z) N) ∧ Stay (isOf v) h g) i ?_ ?_
  · simp (disch := first | omega | (simp only [lnv]; omega)) only [wlk, ↓get_put', ↓reduceIte, seval, f0, f1, f4, f10]
    refine ⟨0, by omega, by omega, ?_, ?_, ?_, by rw [rot_n0]; exact rb, st⟩
    all_goals first | trivial | rfl
  rintro I2 hI2 k2 t2 g2 ⟨z, rfl, hz, e0, e10, e13, rb2, st2⟩
  have hfg2 := st2.fl hf
  have W2 := rb2.ws
  by_cases hzi : a + z + 1 < i
  case neg =>
    have d1 : (((a + z : Nat) : Int) < (i : Int) - 1) = False := eq_false (by omega)
    repeat' (first
      | refine St.h ?_
      | simp (disch := first | omega | (simp only [lnv]; omega)) only [wlk, ↓get_put', ↓reduceIte, seval, e0, e10, e13, d1]
      | (with_reducible (first | apply cd_split | apply gd_split)) <;> (intro hc; (try simp only [hcn] at hc); (try simp only [hc]); (try simp only [hcl] at hc); try omega))
    subst hQ
    obtain rfl : z = i - (a + 1) := by omega
    exact ⟨_, rot_per (Nat.le_refl _) (by omega), sq, rb2, st2⟩
  have d1 : (((a + z : Nat) : Int) < (i : Int) - 1) = True := eq_true (by omega)
  have ez : (((a + z : Nat) : Int) + 1).toNat = a + z + 1 := by omega
  have gc : (rwK L (rotK p a 1 z) N).getD (a + z) default = L.getD (rotK p a 1 z (a + z)) default := rwK_getD (by omega)
  have gd : (rwK L (rotK p a 1 z) N).getD (a + z + 1) default = L.getD (rotK p a 1 z (a + z + 1)) default := rwK_getD (by omega)
  have l2 := ln (rotK p a 1 z)
  repeat' (first
    | refine St.h ?_
    | simp (disch := first | omega | (simp only [lnv]; omega)) only [wlk, ↓get_put', ↓reduceIte, seval, e0, e10, e13, d1, W2.ix, W2.la, ez, gc, gd, Int.toNat_natCast]
    | (with_reducible (first | apply cd_split | apply gd_split)) <;> (intro hc; (try simp only [hcn] at hc); (try simp only [hc]); (try simp only [hcl] at hc); try omega))
  refine st_bufS (c := wriC) (x := L.getD (rotK p a 1 z (a + z + 1)) default) rb2.1 rb2.2 wriC_len (by omega) (by omega) (by omega) rfl fun h3 B3 T3 s4 => ?_
  have W4 : Ws h3 v ((rwK L (rotK p a 1 z) N).set (a + z) (L.getD (rotK p a 1 z (a + z + 1)) default)) := Ss.buf B3 rfl wriC_len (by omega)
  repeat' (first
    | refine St.h ?_
    | simp (disch := first | omega | (simp only [lnv]; omega)) only [wlk, ↓get_put', ↓reduceIte, seval, e0, e10, e13, ez, W4.ix]
    | (with_reducible (first | apply cd_split | apply gd_split)) <;> (intro hc; (try simp only [hcn] at hc); (try simp only [hc]); (try simp only [hcl] at hc); try omega))
  refine st_bufS (c := wriC) (x := L.getD (rotK p a 1 z (a + z)) default) B3 T3 wriC_len (by omega) (by rw [List.length_set]; omega) (by rw [List.length_set]; omega) rfl fun h4 B4 T4 s5 => ?_
  rw [rwK_set, rot_up] at B4
  repeat' (first
    | refine St.h ?_
    | simp (disch := first | omega | (simp only [lnv]; omega)) only [wlk, ↓get_put', ↓reduceIte, seval, e0, e10, e13]
    | (with_reducible (first | apply cd_split | apply gd_split)) <;> (intro hc; (try simp only [hcn] at hc); (try simp only [hc]); (try simp only [hcl] at hc); try omega))
  refine lp_next hI2 (i - (z + 1)) (by omega) ⟨z + 1, rfl, by omega, by simp (disch := first | omega | (simp only [lnv]; omega)) only [wlk, ↓get_put', ↓reduceIte, seval, e0], by simp (disch := first | omega | (simp only [lnv]; omega)) only [wlk, ↓get_put', ↓reduceIte, seval, e10], by simp (disch := first | omega | (simp only [lnv]; omega)) only [wlk, ↓get_put', ↓reduceIte, seval, e13]; rfl, ⟨B4, T4⟩, st2.trans (s4.trans s5)⟩
theorem sm_dn {h : H} {v : V} {p : Nat → Nat} {a m : Nat} (hN : N ≤ 1000) (rb : Rw h v (rwK L p N)) (h1 : a + 1 < m) (h2 : m + 1 ≤ N) (A : Srt L p a m) (S : Stb L p a m (m + 1)) (hf : B.val h.floor ≤ B.val h.next) :
    FnOk Try.prog 58 [v, .i .i64 (a : Int), .i .i64 (m : Int), .i .i64 ((m + 1 : Nat) : Int), .f 40 []] h fun y h' => ∃ q, Per p q a (m + 1) ∧ Srt L q a (m + 1) ∧ Rw h' v (rwK L q N) ∧ Stay (isOf v) h h' := by
  have d00 : ((m : Int) - (a : Int) = 1) = False := eq_false (by omega)
  have d0 : (((m + 1 : Nat) : Int) - (m : Int) = 1) = True := eq_true (by omega)
  have ln : ∀ q : Nat → Nat, (rwK L q N).length = N := fun q => rwK_len
  refine fn_go c58 (by intro hb; cases hb) (by simp) (by simp) fun Q hQ => ?_
  simp only [slotsF, Nat.reduceAdd]
  repeat' (first
    | refine St.h ?_
    | simp (disch := first | omega | (simp only [lnv]; omega)) only [wlk, ↓get_put', ↓reduceIte, seval, d00, d0]
    | (with_reducible (first | apply cd_split | apply gd_split)) <;> (intro hc; (try simp only [hcn] at hc); (try simp only [hc]); (try simp only [hcl] at hc); try omega))
  refine Ok.lp (fun k t g => ∃ i j : Nat, k = j - i ∧ a ≤ i ∧ i ≤ j ∧ j ≤ m ∧ (i = a ∨ klK L (p m) (p (i - 1)) = false) ∧ (j = m ∨ klK L (p m) (p j) = true) ∧ get 0 t = v ∧ get 2 t = .i .i64 (m : Int) ∧ get 4 t = .f 40 [] ∧ get 14 t = .i .i64 (i : Int) ∧ get 15 t = .i .i64 (j : Int) ∧ Rw g v (rwK L p N) ∧ Stay (isOf v) h g) (m - a) ?_ ?_
  · simp (disch := first | omega | (simp only [lnv]; omega)) only [wlk, ↓get_put', ↓reduceIte, seval]
    refine ⟨a, m, by omega, by omega, by omega, by omega, .inl rfl, .inl rfl, ?_⟩
    refine ⟨?_, ?_, ?_, ?_, ?_, rb, ⟨rfl, Nat.le_refl _, fun _ _ _ => rfl⟩⟩
    all_goals first | trivial | rfl
  rintro I hI k t g ⟨i, j, rfl, hi, hij, hj, x2, x3, f0, f2, f4, f14, f15, rb, st⟩
  have hfg := st.fl hf
  have W1 := rb.ws
  have ga : (rwK L p N).getD m default = L.getD (p m) default := rwK_getD (by omega)
  by_cases hlt : i < j
  case pos =>
    have hm : ((i : Int) + (j : Int)).toNat / 2 = (i + j) / 2 := by omega
    have hm2 : ((i : Int) + (j : Int)) / 2 = (((i + j) / 2 : Nat) : Int) := by omega
    have gb : (rwK L p N).getD ((i + j) / 2) default = L.getD (p ((i + j) / 2)) default := rwK_getD (by omega)
    have d1 : ((i : Int) < (j : Int)) = True := eq_true (by omega)
    have l1 := ln p
    repeat' (first
      | refine St.h ?_
      | simp (disch := first | omega | (simp only [lnv]; omega)) only [wlk, ↓get_put', ↓reduceIte, seval, f0, f2, f4, f14, f15, d1, hm, hm2, W1.ix, W1.la, ga, gb, Int.toNat_natCast]
      | (with_reducible (first | apply cd_split | apply gd_split)) <;> (intro hc; (try simp only [hcn] at hc); (try simp only [hc]); (try simp only [hcl] at hc); try omega))
    refine CL.stay (byKey12_ok (a := L.getD (p m) default) (b := L.getD (p ((i + j) / 2)) default) hfg) fun g3 s3 => ?_
    have rb3 := rb.grow s3
    have st3 := st.trans (s3.mono fun _ _ hq => hq.elim)
    cases hk : klK L (p m) (p ((i + j) / 2)) with
    | false =>
      have d2 := cmpW_f hk
      repeat' (first
        | refine St.h ?_
        | simp (disch := first | omega | (simp only [lnv]; omega)) only [wlk, ↓get_put', ↓reduceIte, seval, f0, f2, f4, f14, f15, d2]
        | (with_reducible (first | apply cd_split | apply gd_split)) <;> (intro hc; (try simp only [hcn] at hc); (try simp only [hc]); (try simp only [hcl] at hc); try omega))
      refine lp_next hI (j - ((i + j) / 2 + 1)) (by omega) ⟨(i + j) / 2 + 1, j, rfl, by omega, by omega, by omega, .inr (by rw [Nat.add_sub_cancel]; exact hk), x3, by simp (disch := first | omega | (simp only [lnv]; omega)) only [wlk, ↓get_put', ↓reduceIte, seval, f0], by simp (disch := first | omega | (simp only [lnv]; omega)) only [wlk, ↓get_put', ↓reduceIte, seval, f2], by simp (disch := first | omega | (simp only [lnv]; omega)) only [wlk, ↓get_put', ↓reduceIte, seval, f4], by simp (disch := first | omega | (simp only [lnv]; omega)) only [wlk, ↓get_put', ↓reduceIte, seval]; rfl, by simp (disch := first | omega | (simp only [lnv]; omega)) only [wlk, ↓get_put', ↓reduceIte, seval, f15], rb3, st3⟩
    | true =>
      have d2 := cmpW_t hk
      repeat' (first
        | refine St.h ?_
        | simp (disch := first | omega | (simp only [lnv]; omega)) only [wlk, ↓get_put', ↓reduceIte, seval, f0, f2, f4, f14, f15, d2]
        | (with_reducible (first | apply cd_split | apply gd_split)) <;> (intro hc; (try simp only [hcn] at hc); (try simp only [hc]); (try simp only [hcl] at hc); try omega))
      refine lp_next hI ((i + j) / 2 - i) (by omega) ⟨i, (i + j) / 2, rfl, by omega, by omega, by omega, x2, .inr hk, by simp (disch := first | omega | (simp only [lnv]; omega)) only [wlk, ↓get_put', ↓reduceIte, seval, f0], by simp (disch := first | omega | (simp only [lnv]; omega)) only [wlk, ↓get_put', ↓reduceIte, seval, f2], by simp (disch := first | omega | (simp only [lnv]; omega)) only [wlk, ↓get_put', ↓reduceIte, seval, f4], by simp (disch := first | omega | (simp only [lnv]; omega)) only [wlk, ↓get_put', ↓reduceIte, seval, f14], by simp (disch := first | omega | (simp only [lnv]; omega)) only [wlk, ↓get_put', ↓reduceIte, seval], rb3, st3⟩
  obtain rfl : i = j := by omega
  have y2 : i = a ∨ ltK L (p (i - 1)) (p m) := by
    by_cases e : i = a
    · exact .inl e
    · exact .inr (ltK_no (x2.resolve_left e) fun e2 => S (i - 1) m (by omega) (by omega) (Nat.le_refl _) (by omega) e2)
  have y3 : i = m ∨ ltK L (p m) (p i) := x3.imp id fun e => ltK_kl e
  have d1 : ((i : Int) < (i : Int)) = False := eq_false (by omega)
  have sq := rot_one_dn hi hj A y2 y3
  repeat' (first
    | refine St.h ?_
    | simp (disch := first | omega | (simp only [lnv]; omega)) only [wlk, ↓get_put', ↓reduceIte, seval, f0, f2, f4, f14, f15, d1]
    | (with_reducible (first | apply cd_split | apply gd_split)) <;> (intro hc; (try simp only [hcn] at hc); (try simp only [hc]); (try simp only [hcl] at hc); try omega))
  refine Ok.lp (fun k t g => ∃ z : Nat, k = z ∧ i ≤ z ∧ z ≤ m ∧ get 0 t = v ∧ get 14 t = .i .i64 (i : Int) ∧ get 17 t = .i .i64 (z : Int) ∧ Rw g v (rwK L (rotK p z (m - z) 1) N) ∧ Stay (isOf v) h g) m ?_ ?_
  · simp (disch := first | omega | (simp only [lnv]; omega)) only [wlk, ↓get_put', ↓reduceIte, seval, f0, f2, f4, f14]
    refine ⟨m, by omega, by omega, by omega, ?_, ?_, ?_, by rw [Nat.sub_self, rot_0n]; exact rb, st⟩
    all_goals first | trivial | rfl
  rintro I2 hI2 k2 t2 g2 ⟨z, rfl, hz, hzm, e0, e14, e17, rb2, st2⟩
  have hfg2 := st2.fl hf
  have W2 := rb2.ws
  by_cases hzi : i < k2
  case neg =>
    have d1 : ((i : Int) < (k2 : Int)) = False := eq_false (by omega)
    repeat' (first
      | refine St.h ?_
      | simp (disch := first | omega | (simp only [lnv]; omega)) only [wlk, ↓get_put', ↓reduceIte, seval, e0, e14, e17, d1]
      | (with_reducible (first | apply cd_split | apply gd_split)) <;> (intro hc; (try simp only [hcn] at hc); (try simp only [hc]); (try simp only [hcl] at hc); try omega))
    subst hQ
    obtain rfl : k2 = i := by omega
    exact ⟨_, rot_per hi (by omega), sq, rb2, st2⟩
  have d1 : ((i : Int) < (k2 : Int)) = True := eq_true (by omega)
  obtain ⟨n, rfl⟩ : ∃ n, k2 = n + 1 := ⟨k2 - 1, by omega⟩
  have ez : (((n + 1 : Nat) : Int) - 1).toNat = n := by omega
  have ez' : ((n + 1 : Nat) : Int) - 1 = (n : Int) := by omega
  have gc : (rwK L (rotK p (n + 1) (m - (n + 1)) 1) N).getD n default = L.getD (rotK p (n + 1) (m - (n + 1)) 1 n) default := rwK_getD (by omega)
  have gd : (rwK L (rotK p (n + 1) (m - (n + 1)) 1) N).getD (n + 1) default = L.getD (rotK p (n + 1) (m - (n + 1)) 1 (n + 1)) default := rwK_getD (by omega)
  have l2 := ln (rotK p (n + 1) (m - (n + 1)) 1)
  repeat' (first
    | refine St.h ?_
    | simp (disch := first | omega | (simp only [lnv]; omega)) only [wlk, ↓get_put', ↓reduceIte, seval, e0, e14, e17, d1, W2.ix, W2.la, ez, gc, gd, Int.toNat_natCast]
    | (with_reducible (first | apply cd_split | apply gd_split)) <;> (intro hc; (try simp only [hcn] at hc); (try simp only [hc]); (try simp only [hcl] at hc); try omega))
  refine st_bufS (c := wriC) (x := L.getD (rotK p (n + 1) (m - (n + 1)) 1 n) default) rb2.1 rb2.2 wriC_len (by omega) (by omega) (by omega) rfl fun h3 B3 T3 s4 => ?_
  have W4 : Ws h3 v ((rwK L (rotK p (n + 1) (m - (n + 1)) 1) N).set (n + 1) (L.getD (rotK p (n + 1) (m - (n + 1)) 1 n) default)) := Ss.buf B3 rfl wriC_len (by omega)
  repeat' (first
    | refine St.h ?_
    | simp (disch := first | omega | (simp only [lnv]; omega)) only [wlk, ↓get_put', ↓reduceIte, seval, e0, e14, e17, ez, W4.ix]
    | (with_reducible (first | apply cd_split | apply gd_split)) <;> (intro hc; (try simp only [hcn] at hc); (try simp only [hc]); (try simp only [hcl] at hc); try omega))
  refine st_bufS (c := wriC) (x := L.getD (rotK p (n + 1) (m - (n + 1)) 1 (n + 1)) default) B3 T3 wriC_len (by omega) (by rw [List.length_set]; omega) (by rw [List.length_set]; omega) rfl fun h4 B4 T4 s5 => ?_
  rw [rwK_set, rot_dn, show m - (n + 1) + 1 = m - n by omega] at B4
  repeat' (first
    | refine St.h ?_
    | simp (disch := first | omega | (simp only [lnv]; omega)) only [wlk, ↓get_put', ↓reduceIte, seval, e0, e14, e17]
    | (with_reducible (first | apply cd_split | apply gd_split)) <;> (intro hc; (try simp only [hcn] at hc); (try simp only [hc]); (try simp only [hcl] at hc); try omega))
  refine lp_next hI2 n (by omega) ⟨n, rfl, by omega, by omega, by simp (disch := first | omega | (simp only [lnv]; omega)) only [wlk, ↓get_put', ↓reduceIte, seval, e0], by simp (disch := first | omega | (simp only [lnv]; omega)) only [wlk, ↓get_put', ↓reduceIte, seval, e14], by simp (disch := first | omega | (simp only [lnv]; omega)) only [wlk, ↓get_put', ↓reduceIte, seval, ez', e17], ⟨B4, T4⟩, st2.trans (s4.trans s5)⟩
theorem sm_step {K : Nat} (hN : N ≤ 1000) (ih : SmOk L N K) {h : H} {v : V} {p : Nat → Nat} {a m b : Nat} (hK : b - a < K + 1) (rb : Rw h v (rwK L p N)) (h1 : a < m) (h2 : m < b) (h3 : b ≤ N) (A : Srt L p a m) (Bs : Srt L p m b) (S : Stb L p a m b) (hf : B.val h.floor ≤ B.val h.next) :
    FnOk Try.prog 58 [v, .i .i64 (a : Int), .i .i64 (m : Int), .i .i64 (b : Int), .f 40 []] h fun y h' => ∃ q, Per p q a b ∧ Srt L q a b ∧ Rw h' v (rwK L q N) ∧ Stay (isOf v) h h' := by
  by_cases m1 : m = a + 1
  · subst m1
    exact sm_up hN rb h2 h3 Bs S hf
  by_cases m2 : b = m + 1
  · subst m2
    exact sm_dn hN rb (by omega) h3 A S hf
  have d0 : ((m : Int) - (a : Int) = 1) = False := eq_false (by omega)
  have d00 : ((b : Int) - (m : Int) = 1) = False := eq_false (by omega)
  have ln : ∀ q : Nat → Nat, (rwK L q N).length = N := fun q => rwK_len
  obtain ⟨mid, hmid⟩ : ∃ mid, mid = (a + b) / 2 := ⟨_, rfl⟩
  have hm : ((a : Int) + (b : Int)).toNat / 2 = mid := by omega
  have hm2 : ((a : Int) + (b : Int)) / 2 = (mid : Int) := by omega
  obtain ⟨z0, r0, hz0, hr0⟩ : ∃ z0 r0 : Nat, (m > mid → z0 = mid + m - b ∧ r0 = mid) ∧ (m ≤ mid → z0 = a ∧ r0 = m) := by
    by_cases e : m > mid
    · exact ⟨mid + m - b, mid, fun _ => ⟨rfl, rfl⟩, fun h => by omega⟩
    · exact ⟨a, m, fun h => absurd h e, fun _ => ⟨rfl, rfl⟩⟩
  have hzr : a ≤ z0 ∧ z0 ≤ r0 ∧ r0 ≤ m ∧ r0 ≤ mid ∧ mid + m ≤ z0 + b := by
    by_cases e : m > mid
    · obtain ⟨e1, e2⟩ := hz0 e; omega
    · obtain ⟨e1, e2⟩ := hr0 (by omega); omega
  obtain ⟨y1, y2, y3, y4, y5⟩ := hzr
  refine fn_go c58 (by intro hb; cases hb) (by simp) (by simp) fun Q hQ => ?_
  simp only [slotsF, Nat.reduceAdd]
  -- what follows the choice of both ends
  have rest : ∀ t : F, get 0 t = v → get 1 t = .i .i64 (a : Int) → get 2 t = .i .i64 (m : Int) → get 3 t = .i .i64 (b : Int) → get 4 t = .f 40 [] → get 18 t = .i .i64 (mid : Int) → get 19 t = .i .i64 ((mid + m : Nat) : Int) → get 20 t = .i .i64 (z0 : Int) → get 21 t = .i .i64 (r0 : Int) → Ok Try.prog 220 s58_79 t h (FnK [] Q) := fun t f0 f1 f2 f3 f4 f18 f19 f20 f21 => by
    have en : ((mid + m : Nat) : Int) - 1 = ((mid + m - 1 : Nat) : Int) := by omega
    repeat' (first
      | refine St.h ?_
      | simp (disch := first | omega | (simp only [lnv]; omega)) only [wlk, ↓get_put', ↓reduceIte, seval, f0, f1, f2, f3, f4, f18, f19, f20, f21]
      | (with_reducible (first | apply cd_split | apply gd_split)) <;> (intro hc; (try simp only [hcn] at hc); (try simp only [hc]); (try simp only [hcl] at hc); try omega))
    refine Ok.lp (fun k t g => ∃ z r : Nat, k = r - z ∧ z0 ≤ z ∧ z ≤ r ∧ r ≤ r0 ∧ (z = z0 ∨ klK L (p (mid + m - z)) (p (z - 1)) = false) ∧ (r = r0 ∨ klK L (p (mid + m - 1 - r)) (p r) = true) ∧ get 0 t = v ∧ get 1 t = .i .i64 (a : Int) ∧ get 2 t = .i .i64 (m : Int) ∧ get 3 t = .i .i64 (b : Int) ∧ get 4 t = .f 40 [] ∧ get 18 t = .i .i64 (mid : Int) ∧ get 19 t = .i .i64 ((mid + m : Nat) : Int) ∧ get 20 t = .i .i64 (z : Int) ∧ get 21 t = .i .i64 (r : Int) ∧ get 22 t = .i .i64 ((mid + m - 1 : Nat) : Int) ∧ Rw g v (rwK L p N) ∧ Stay (isOf v) h g) (r0 - z0) ?_ ?_
    · simp (disch := first | omega | (simp only [lnv]; omega)) only [wlk, ↓get_put', ↓reduceIte, seval, f0, f1, f2, f3, f4, f18, f19, f20, f21, en]
      refine ⟨z0, r0, by omega, by omega, by omega, by omega, .inl rfl, .inl rfl, ?_⟩
      refine ⟨?_, ?_, ?_, ?_, ?_, ?_, ?_, ?_, ?_, ?_, rb, ⟨rfl, Nat.le_refl _, fun _ _ _ => rfl⟩⟩
      all_goals first | trivial | rfl
    rintro I hI k t g ⟨z, r, rfl, hz, hzr, hr, x1, x2, f0, f1, f2, f3, f4, f18, f19, f20, f21, f22, rb, st⟩
    have hfg := st.fl hf
    have W1 := rb.ws
    by_cases hlt : z < r
    case pos =>
      have hc : ((z : Int) + (r : Int)).toNat / 2 = (z + r) / 2 := by omega
      have hc2 : ((z : Int) + (r : Int)) / 2 = (((z + r) / 2 : Nat) : Int) := by omega
      have hc3 : (((mid + m - 1 : Nat) : Int) - (((z + r) / 2 : Nat) : Int)).toNat = mid + m - 1 - (z + r) / 2 := by omega
      have ga : (rwK L p N).getD (mid + m - 1 - (z + r) / 2) default = L.getD (p (mid + m - 1 - (z + r) / 2)) default := rwK_getD (by omega)
      have gb : (rwK L p N).getD ((z + r) / 2) default = L.getD (p ((z + r) / 2)) default := rwK_getD (by omega)
      have d1 : ((z : Int) < (r : Int)) = True := eq_true (by omega)
      have l1 := ln p
      repeat' (first
        | refine St.h ?_
        | simp (disch := first | omega | (simp only [lnv]; omega)) only [wlk, ↓get_put', ↓reduceIte, seval, f0, f1, f2, f3, f4, f18, f19, f20, f21, f22, d1, hc, hc2, hc3, W1.ix, W1.la, ga, gb, Int.toNat_natCast]
        | (with_reducible (first | apply cd_split | apply gd_split)) <;> (intro hc; (try simp only [hcn] at hc); (try simp only [hc]); (try simp only [hcl] at hc); try omega))
      refine CL.stay (byKey12_ok (a := L.getD (p (mid + m - 1 - (z + r) / 2)) default) (b := L.getD (p ((z + r) / 2)) default) hfg) fun g3 s3 => ?_
      have rb3 := rb.grow s3
      have st3 := st.trans (s3.mono fun _ _ hq => hq.elim)
      cases hk : klK L (p (mid + m - 1 - (z + r) / 2)) (p ((z + r) / 2)) with
      | false =>
        have d2 := cmpW_f hk
        repeat' (first
          | refine St.h ?_
          | simp (disch := first | omega | (simp only [lnv]; omega)) only [wlk, ↓get_put', ↓reduceIte, seval, f0, f1, f2, f3, f4, f18, f19, f20, f21, f22, d2]
          | (with_reducible (first | apply cd_split | apply gd_split)) <;> (intro hc; (try simp only [hcn] at hc); (try simp only [hc]); (try simp only [hcl] at hc); try omega))
        refine lp_next hI (r - ((z + r) / 2 + 1)) (by omega) ⟨(z + r) / 2 + 1, r, rfl, by omega, by omega, by omega, .inr (by rw [Nat.add_sub_cancel, show mid + m - ((z + r) / 2 + 1) = mid + m - 1 - (z + r) / 2 by omega]; exact hk), x2, by simp (disch := first | omega | (simp only [lnv]; omega)) only [wlk, ↓get_put', ↓reduceIte, seval, f0], by simp (disch := first | omega | (simp only [lnv]; omega)) only [wlk, ↓get_put', ↓reduceIte, seval, f1], by simp (disch := first | omega | (simp only [lnv]; omega)) only [wlk, ↓get_put', ↓reduceIte, seval, f2], by simp (disch := first | omega | (simp only [lnv]; omega)) only [wlk, ↓get_put', ↓reduceIte, seval, f3], by simp (disch := first | omega | (simp only [lnv]; omega)) only [wlk, ↓get_put', ↓reduceIte, seval, f4], by simp (disch := first | omega | (simp only [lnv]; omega)) only [wlk, ↓get_put', ↓reduceIte, seval, f18], by simp (disch := first | omega | (simp only [lnv]; omega)) only [wlk, ↓get_put', ↓reduceIte, seval, f19], by simp (disch := first | omega | (simp only [lnv]; omega)) only [wlk, ↓get_put', ↓reduceIte, seval]; rfl, by simp (disch := first | omega | (simp only [lnv]; omega)) only [wlk, ↓get_put', ↓reduceIte, seval, f21], by simp (disch := first | omega | (simp only [lnv]; omega)) only [wlk, ↓get_put', ↓reduceIte, seval, f22], rb3, st3⟩
      | true =>
        have d2 := cmpW_t hk
        repeat' (first
          | refine St.h ?_
          | simp (disch := first | omega | (simp only [lnv]; omega)) only [wlk, ↓get_put', ↓reduceIte, seval, f0, f1, f2, f3, f4, f18, f19, f20, f21, f22, d2]
          | (with_reducible (first | apply cd_split | apply gd_split)) <;> (intro hc; (try simp only [hcn] at hc); (try simp only [hc]); (try simp only [hcl] at hc); try omega))
        refine lp_next hI ((z + r) / 2 - z) (by omega) ⟨z, (z + r) / 2, rfl, by omega, by omega, by omega, x1, .inr hk, by simp (disch := first | omega | (simp only [lnv]; omega)) only [wlk, ↓get_put', ↓reduceIte, seval, f0], by simp (disch := first | omega | (simp only [lnv]; omega)) only [wlk, ↓get_put', ↓reduceIte, seval, f1], by simp (disch := first | omega | (simp only [lnv]; omega)) only [wlk, ↓get_put', ↓reduceIte, seval, f2], by simp (disch := first | omega | (simp only [lnv]; omega)) only [wlk, ↓get_put', ↓reduceIte, seval, f3], by simp (disch := first | omega | (simp only [lnv]; omega)) only [wlk, ↓get_put', ↓reduceIte, seval, f4], by simp (disch := first | omega | (simp only [lnv]; omega)) only [wlk, ↓get_put', ↓reduceIte, seval, f18], by simp (disch := first | omega | (simp only [lnv]; omega)) only [wlk, ↓get_put', ↓reduceIte, seval, f19], by simp (disch := first | omega | (simp only [lnv]; omega)) only [wlk, ↓get_put', ↓reduceIte, seval, f20], by simp (disch := first | omega | (simp only [lnv]; omega)) only [wlk, ↓get_put', ↓reduceIte, seval], by simp (disch := first | omega | (simp only [lnv]; omega)) only [wlk, ↓get_put', ↓reduceIte, seval, f22], rb3, st3⟩
    obtain rfl : z = r := by omega
    have d1 : ((z : Int) < (z : Int)) = False := eq_false (by omega)
    obtain ⟨e, he⟩ : ∃ e, e = mid + m - z := ⟨_, rfl⟩
    have ee : ((mid + m : Nat) : Int) - (z : Int) = (e : Int) := by omega
    have w1 : z = a ∨ e = b ∨ ltK L (p (z - 1)) (p e) := by
      rcases x1 with h | h
      · by_cases hg : m > mid
        · have := (hz0 hg).1; right; left; omega
        · have := (hr0 (by omega)).1; left; omega
      · by_cases hza : z = a
        · exact .inl hza
        · by_cases heb : e = b
          · exact .inr (.inl heb)
          · rw [← he] at h
            exact .inr (.inr (ltK_no h fun e2 => S (z - 1) e (by omega) (by omega) (by omega) (by omega) e2))
    have w2 : e = m ∨ z = m ∨ ltK L (p (e - 1)) (p z) := by
      rcases x2 with h | h
      · by_cases hg : m > mid
        · have := (hz0 hg).2; left; omega
        · have := (hr0 (by omega)).2; right; left; omega
      · rw [show mid + m - 1 - z = e - 1 by omega] at h
        exact .inr (.inr (ltK_kl h))
    obtain ⟨H1, H2, H3, H4, H5, H6, H7⟩ := rot_half (c := mid) (s := z) (e := e) (by omega) (by omega) (by omega) (by omega) A Bs S (by omega) w1 w2
    have hper := rot_per (p := p) (a := a) (b := b) (s := z) (i := m - z) (j := e - m) (by omega) (by omega)
    generalize hq0 : rotK p z (m - z) (e - m) = q0 at *
    have fin : ∀ t : F, ∀ g1 : H, ∀ q1 : Nat → Nat, get 0 t = v → get 3 t = .i .i64 (b : Int) → get 4 t = .f 40 [] → get 18 t = .i .i64 (mid : Int) → get 24 t = .i .i64 (e : Int) → Per q0 q1 a mid → Srt L q1 a mid → Rw g1 v (rwK L q1 N) → Stay (isOf v) h g1 → Ok Try.prog 220 s58_74 t g1 (FnK [] Q) := fun t g1 q1 f0 f3 f4 f18 f24 P1 S1 R1 st1 => by
      have hf1 := st1.fl hf
      have same : ∀ k, mid ≤ k → k < b → q1 k = q0 k := fun k hk _ => P1.out k (.inr hk)
      by_cases c1 : mid < e ∧ e < b
      · have d1 : ((mid : Int) < (e : Int)) = True := eq_true (by omega)
        have d2 : ((e : Int) < (b : Int)) = True := eq_true (by omega)
        repeat' (first
          | refine St.h ?_
          | simp (disch := first | omega | (simp only [lnv]; omega)) only [wlk, ↓get_put', ↓reduceIte, seval, f0, f3, f4, f18, f24, d1, d2]
          | (with_reducible (first | apply cd_split | apply gd_split)) <;> (intro hc; (try simp only [hcn] at hc); (try simp only [hc]); (try simp only [hcl] at hc); try omega))
        refine CL.mk (ih (p := q1) (a := mid) (m := e) (b := b) (by omega) R1 c1.1 c1.2 h3 (srt_out H4 fun k k1 k2 => same k k1 (by omega)) (srt_out H5 fun k k1 k2 => same k (by omega) k2) (fun i j i1 i2 i3 i4 i5 => by
          rw [same i i1 (by omega), same j (by omega) i4] at *
          exact H6 i j i1 i2 i3 i4 i5) hf1) ?_
        rintro y g2 ⟨q2, P2, S2, R2, s2⟩
        repeat' (first
          | refine St.h ?_
          | simp (disch := first | omega | (simp only [lnv]; omega)) only [wlk, ↓get_put', ↓reduceIte, seval]
          | (with_reducible (first | apply cd_split | apply gd_split)) <;> (intro hc; (try simp only [hcn] at hc); (try simp only [hc]); (try simp only [hcl] at hc); try omega))
        subst hQ
        refine ⟨q2, ?_, srt_glue (srt_out S1 fun k k1 k2 => P2.out k (.inl k2)) S2 (crs_per2 (crs_per H7 P1) P2), R2, st1.trans s2⟩
        exact (hper.trans (P1.wide (Nat.le_refl _) (by omega))).trans (P2.wide (by omega) (Nat.le_refl _))
      · have hs : Srt L q0 mid b := by
          by_cases c2 : mid < e
          · obtain rfl : e = b := by omega
            exact H4
          · obtain rfl : e = mid := by omega
            exact H5
        have done : ∃ q, Per p q a b ∧ Srt L q a b ∧ Rw g1 v (rwK L q N) ∧ Stay (isOf v) h g1 :=
          ⟨q1, hper.trans (P1.wide (Nat.le_refl _) (by omega)), srt_glue S1 (srt_out hs same) (crs_per H7 P1), R1, st1⟩
        by_cases c2 : mid < e
        · have d1 : ((mid : Int) < (e : Int)) = True := eq_true (by omega)
          have d2 : ((e : Int) < (b : Int)) = False := eq_false (by omega)
          repeat' (first
            | refine St.h ?_
            | simp (disch := first | omega | (simp only [lnv]; omega)) only [wlk, ↓get_put', ↓reduceIte, seval, f0, f3, f4, f18, f24, d1, d2]
            | (with_reducible (first | apply cd_split | apply gd_split)) <;> (intro hc; (try simp only [hcn] at hc); (try simp only [hc]); (try simp only [hcl] at hc); try omega))
          subst hQ
          exact done
        · have d1 : ((mid : Int) < (e : Int)) = False := eq_false (by omega)
          repeat' (first
            | refine St.h ?_
            | simp (disch := first | omega | (simp only [lnv]; omega)) only [wlk, ↓get_put', ↓reduceIte, seval, f0, f3, f4, f18, f24, d1]
            | (with_reducible (first | apply cd_split | apply gd_split)) <;> (intro hc; (try simp only [hcn] at hc); (try simp only [hc]); (try simp only [hcl] at hc); try omega))
          subst hQ
          exact done
    have mid' : ∀ t : F, ∀ g1 : H, get 0 t = v → get 1 t = .i .i64 (a : Int) → get 3 t = .i .i64 (b : Int) → get 4 t = .f 40 [] → get 18 t = .i .i64 (mid : Int) → get 20 t = .i .i64 (z : Int) → get 24 t = .i .i64 (e : Int) → Rw g1 v (rwK L q0 N) → Stay (isOf v) h g1 → Ok Try.prog 220 s58_75 t g1 (FnK [] Q) := fun t g1 f0 f1 f3 f4 f18 f20 f24 R1 st1 => by
      have hf1 := st1.fl hf
      by_cases c1 : a < z ∧ z < mid
      · have d1 : ((a : Int) < (z : Int)) = True := eq_true (by omega)
        have d2 : ((z : Int) < (mid : Int)) = True := eq_true (by omega)
        repeat' (first
          | refine fin _ _ _ ?_ ?_ ?_ ?_ ?_ P1 S1 R2 (st1.trans s2)
          | refine St.h ?_
          | simp (disch := first | omega | (simp only [lnv]; omega)) only [wlk, ↓get_put', ↓reduceIte, seval, f0, f1, f3, f4, f18, f20, f24, d1, d2]
          | (with_reducible (first | apply cd_split | apply gd_split)) <;> (intro hc; (try simp only [hcn] at hc); (try simp only [hc]); (try simp only [hcl] at hc); try omega))
        refine CL.mk (ih (p := q0) (a := a) (m := z) (b := mid) (by omega) R1 c1.1 c1.2 (by omega) H1 H2 H3 hf1) ?_
        rintro y g2 ⟨q1, P1, S1, R2, s2⟩
        repeat' (first
          | refine fin _ _ q1 ?_ ?_ ?_ ?_ ?_ P1 S1 R2 (st1.trans s2)
          | refine St.h ?_
          | simp (disch := first | omega | (simp only [lnv]; omega)) only [wlk, ↓get_put', ↓reduceIte, seval, f0, f1, f3, f4, f18, f20, f24]
          | (with_reducible (first | apply cd_split | apply gd_split)) <;> (intro hc; (try simp only [hcn] at hc); (try simp only [hc]); (try simp only [hcl] at hc); try omega))
        all_goals first | (simp (disch := first | omega | (simp only [lnv]; omega)) only [wlk, ↓get_put', ↓reduceIte, seval, f0]; done) | (simp (disch := first | omega | (simp only [lnv]; omega)) only [wlk, ↓get_put', ↓reduceIte, seval, f1]; done) | (simp (disch := first | omega | (simp only [lnv]; omega)) only [wlk, ↓get_put', ↓reduceIte, seval, f3]; done) | (simp (disch := first | omega | (simp only [lnv]; omega)) only [wlk, ↓get_put', ↓reduceIte, seval, f4]; done) | (simp (disch := first | omega | (simp only [lnv]; omega)) only [wlk, ↓get_put', ↓reduceIte, seval, f18]; done) | (simp (disch := first | omega | (simp only [lnv]; omega)) only [wlk, ↓get_put', ↓reduceIte, seval, f20]; done) | (simp (disch := first | omega | (simp only [lnv]; omega)) only [wlk, ↓get_put', ↓reduceIte, seval, f24]; done) | (simp (disch := first | omega | (simp only [lnv]; omega)) only [wlk, ↓get_put', ↓reduceIte, seval]; done)
      · have hs : Srt L q0 a mid := by
          by_cases c2 : a < z
          · obtain rfl : z = mid := by omega
            exact H1
          · obtain rfl : z = a := by omega
            exact H2
        by_cases c2 : a < z
        · have d1 : ((a : Int) < (z : Int)) = True := eq_true (by omega)
          have d2 : ((z : Int) < (mid : Int)) = False := eq_false (by omega)
          repeat' (first
            | refine fin _ _ q0 ?_ ?_ ?_ ?_ ?_ Per.refl hs R1 st1
            | refine St.h ?_
            | simp (disch := first | omega | (simp only [lnv]; omega)) only [wlk, ↓get_put', ↓reduceIte, seval, f0, f1, f3, f4, f18, f20, f24, d1, d2]
            | (with_reducible (first | apply cd_split | apply gd_split)) <;> (intro hc; (try simp only [hcn] at hc); (try simp only [hc]); (try simp only [hcl] at hc); try omega))
          all_goals first | (simp (disch := first | omega | (simp only [lnv]; omega)) only [wlk, ↓get_put', ↓reduceIte, seval, f0]; done) | (simp (disch := first | omega | (simp only [lnv]; omega)) only [wlk, ↓get_put', ↓reduceIte, seval, f1]; done) | (simp (disch := first | omega | (simp only [lnv]; omega)) only [wlk, ↓get_put', ↓reduceIte, seval, f3]; done) | (simp (disch := first | omega | (simp only [lnv]; omega)) only [wlk, ↓get_put', ↓reduceIte, seval, f4]; done) | (simp (disch := first | omega | (simp only [lnv]; omega)) only [wlk, ↓get_put', ↓reduceIte, seval, f18]; done) | (simp (disch := first | omega | (simp only [lnv]; omega)) only [wlk, ↓get_put', ↓reduceIte, seval, f20]; done) | (simp (disch := first | omega | (simp only [lnv]; omega)) only [wlk, ↓get_put', ↓reduceIte, seval, f24]; done) | (simp (disch := first | omega | (simp only [lnv]; omega)) only [wlk, ↓get_put', ↓reduceIte, seval]; done)
        · have d1 : ((a : Int) < (z : Int)) = False := eq_false (by omega)
          repeat' (first
            | refine fin _ _ q0 ?_ ?_ ?_ ?_ ?_ Per.refl hs R1 st1
            | refine St.h ?_
            | simp (disch := first | omega | (simp only [lnv]; omega)) only [wlk, ↓get_put', ↓reduceIte, seval, f0, f1, f3, f4, f18, f20, f24, d1]
            | (with_reducible (first | apply cd_split | apply gd_split)) <;> (intro hc; (try simp only [hcn] at hc); (try simp only [hc]); (try simp only [hcl] at hc); try omega))
          all_goals first | (simp (disch := first | omega | (simp only [lnv]; omega)) only [wlk, ↓get_put', ↓reduceIte, seval, f0]; done) | (simp (disch := first | omega | (simp only [lnv]; omega)) only [wlk, ↓get_put', ↓reduceIte, seval, f1]; done) | (simp (disch := first | omega | (simp only [lnv]; omega)) only [wlk, ↓get_put', ↓reduceIte, seval, f3]; done) | (simp (disch := first | omega | (simp only [lnv]; omega)) only [wlk, ↓get_put', ↓reduceIte, seval, f4]; done) | (simp (disch := first | omega | (simp only [lnv]; omega)) only [wlk, ↓get_put', ↓reduceIte, seval, f18]; done) | (simp (disch := first | omega | (simp only [lnv]; omega)) only [wlk, ↓get_put', ↓reduceIte, seval, f20]; done) | (simp (disch := first | omega | (simp only [lnv]; omega)) only [wlk, ↓get_put', ↓reduceIte, seval, f24]; done) | (simp (disch := first | omega | (simp only [lnv]; omega)) only [wlk, ↓get_put', ↓reduceIte, seval]; done)
    by_cases c1 : z < m ∧ m < e
    · have d2 : ((z : Int) < (m : Int)) = True := eq_true (by omega)
      have d3 : ((m : Int) < (e : Int)) = True := eq_true (by omega)
      repeat' (first
        | refine St.h ?_
        | simp (disch := first | omega | (simp only [lnv]; omega)) only [wlk, ↓get_put', ↓reduceIte, seval, f0, f1, f2, f3, f4, f18, f19, f20, f21, f22, d1, d2, d3, ee]
        | (with_reducible (first | apply cd_split | apply gd_split)) <;> (intro hc; (try simp only [hcn] at hc); (try simp only [hc]); (try simp only [hcl] at hc); try omega))
      refine CL.mk (rot_ok (p := p) (a := z) (m := m) (b := e) rb hN c1.1 c1.2 (by omega) hfg) ?_
      rintro y g2 ⟨R2, s2⟩
      rw [hq0] at R2
      repeat' (first
        | refine mid' _ _ ?_ ?_ ?_ ?_ ?_ ?_ ?_ R2 (st.trans s2)
        | refine St.h ?_
        | simp (disch := first | omega | (simp only [lnv]; omega)) only [wlk, ↓get_put', ↓reduceIte, seval, f0, f1, f2, f3, f4, f18, f19, f20, f21, f22]
        | (with_reducible (first | apply cd_split | apply gd_split)) <;> (intro hc; (try simp only [hcn] at hc); (try simp only [hc]); (try simp only [hcl] at hc); try omega))
      all_goals first | (simp (disch := first | omega | (simp only [lnv]; omega)) only [wlk, ↓get_put', ↓reduceIte, seval, f0]; done) | (simp (disch := first | omega | (simp only [lnv]; omega)) only [wlk, ↓get_put', ↓reduceIte, seval, f1]; done) | (simp (disch := first | omega | (simp only [lnv]; omega)) only [wlk, ↓get_put', ↓reduceIte, seval, f3]; done) | (simp (disch := first | omega | (simp only [lnv]; omega)) only [wlk, ↓get_put', ↓reduceIte, seval, f4]; done) | (simp (disch := first | omega | (simp only [lnv]; omega)) only [wlk, ↓get_put', ↓reduceIte, seval, f18]; done) | (simp (disch := first | omega | (simp only [lnv]; omega)) only [wlk, ↓get_put', ↓reduceIte, seval, f20]; done) | (simp (disch := first | omega | (simp only [lnv]; omega)) only [wlk, ↓get_put', ↓reduceIte, seval, f24]; done) | (simp (disch := first | omega | (simp only [lnv]; omega)) only [wlk, ↓get_put', ↓reduceIte, seval]; done)
    · have hq : q0 = p := by
        rw [← hq0]
        by_cases c2 : z < m
        · rw [show e - m = 0 by omega, rot_n0]
        · rw [show m - z = 0 by omega, rot_0n]
      rw [hq] at mid'
      by_cases c2 : z < m
      · have d2 : ((z : Int) < (m : Int)) = True := eq_true (by omega)
        have d3 : ((m : Int) < (e : Int)) = False := eq_false (by omega)
        repeat' (first
          | refine mid' _ _ ?_ ?_ ?_ ?_ ?_ ?_ ?_ rb st
          | refine St.h ?_
          | simp (disch := first | omega | (simp only [lnv]; omega)) only [wlk, ↓get_put', ↓reduceIte, seval, f0, f1, f2, f3, f4, f18, f19, f20, f21, f22, d1, d2, d3, ee]
          | (with_reducible (first | apply cd_split | apply gd_split)) <;> (intro hc; (try simp only [hcn] at hc); (try simp only [hc]); (try simp only [hcl] at hc); try omega))
        all_goals first | (simp (disch := first | omega | (simp only [lnv]; omega)) only [wlk, ↓get_put', ↓reduceIte, seval, f0]; done) | (simp (disch := first | omega | (simp only [lnv]; omega)) only [wlk, ↓get_put', ↓reduceIte, seval, f1]; done) | (simp (disch := first | omega | (simp only [lnv]; omega)) only [wlk, ↓get_put', ↓reduceIte, seval, f3]; done) | (simp (disch := first | omega | (simp only [lnv]; omega)) only [wlk, ↓get_put', ↓reduceIte, seval, f4]; done) | (simp (disch := first | omega | (simp only [lnv]; omega)) only [wlk, ↓get_put', ↓reduceIte, seval, f18]; done) | (simp (disch := first | omega | (simp only [lnv]; omega)) only [wlk, ↓get_put', ↓reduceIte, seval, f20]; done) | (simp (disch := first | omega | (simp only [lnv]; omega)) only [wlk, ↓get_put', ↓reduceIte, seval, f24]; done) | (simp (disch := first | omega | (simp only [lnv]; omega)) only [wlk, ↓get_put', ↓reduceIte, seval]; done)
      · have d2 : ((z : Int) < (m : Int)) = False := eq_false (by omega)
        repeat' (first
          | refine mid' _ _ ?_ ?_ ?_ ?_ ?_ ?_ ?_ rb st
          | refine St.h ?_
          | simp (disch := first | omega | (simp only [lnv]; omega)) only [wlk, ↓get_put', ↓reduceIte, seval, f0, f1, f2, f3, f4, f18, f19, f20, f21, f22, d1, d2, ee]
          | (with_reducible (first | apply cd_split | apply gd_split)) <;> (intro hc; (try simp only [hcn] at hc); (try simp only [hc]); (try simp only [hcl] at hc); try omega))
        all_goals first | (simp (disch := first | omega | (simp only [lnv]; omega)) only [wlk, ↓get_put', ↓reduceIte, seval, f0]; done) | (simp (disch := first | omega | (simp only [lnv]; omega)) only [wlk, ↓get_put', ↓reduceIte, seval, f1]; done) | (simp (disch := first | omega | (simp only [lnv]; omega)) only [wlk, ↓get_put', ↓reduceIte, seval, f3]; done) | (simp (disch := first | omega | (simp only [lnv]; omega)) only [wlk, ↓get_put', ↓reduceIte, seval, f4]; done) | (simp (disch := first | omega | (simp only [lnv]; omega)) only [wlk, ↓get_put', ↓reduceIte, seval, f18]; done) | (simp (disch := first | omega | (simp only [lnv]; omega)) only [wlk, ↓get_put', ↓reduceIte, seval, f20]; done) | (simp (disch := first | omega | (simp only [lnv]; omega)) only [wlk, ↓get_put', ↓reduceIte, seval, f24]; done) | (simp (disch := first | omega | (simp only [lnv]; omega)) only [wlk, ↓get_put', ↓reduceIte, seval]; done)
  by_cases hg : mid < m
  · obtain ⟨e1, e2⟩ := hz0 hg
    have d1 : ((mid : Int) < (m : Int)) = True := eq_true (by omega)
    have e3 : (mid : Int) + (m : Int) - (b : Int) = (z0 : Int) := by omega
    repeat' (first
      | refine rest _ ?_ ?_ ?_ ?_ ?_ ?_ ?_ ?_ ?_
      | refine St.h ?_
      | simp (disch := first | omega | (simp only [lnv]; omega)) only [wlk, ↓get_put', ↓reduceIte, seval, d0, d00, hm, hm2, d1, e3, Int.toNat_natCast]
      | (with_reducible (first | apply cd_split | apply gd_split)) <;> (intro hc; (try simp only [hcn] at hc); (try simp only [hc]); (try simp only [hcl] at hc); try omega))
    all_goals first
      | (simp (disch := first | omega | (simp only [lnv]; omega)) only [wlk, ↓get_put', ↓reduceIte, seval]; done)
      | (simp (disch := first | omega | (simp only [lnv]; omega)) only [wlk, ↓get_put', ↓reduceIte, seval, e3]; done)
      | rfl
      | rw [e1]
      | rw [e2]
      | (simp (disch := first | omega | (simp only [lnv]; omega)) only [wlk, ↓get_put', ↓reduceIte, seval]; rfl)
  · obtain ⟨e1, e2⟩ := hr0 (by omega)
    have d1 : ((mid : Int) < (m : Int)) = False := eq_false (by omega)
    repeat' (first
      | refine rest _ ?_ ?_ ?_ ?_ ?_ ?_ ?_ ?_ ?_
      | refine St.h ?_
      | simp (disch := first | omega | (simp only [lnv]; omega)) only [wlk, ↓get_put', ↓reduceIte, seval, d0, d00, hm, hm2, d1, Int.toNat_natCast]
      | (with_reducible (first | apply cd_split | apply gd_split)) <;> (intro hc; (try simp only [hcn] at hc); (try simp only [hc]); (try simp only [hcl] at hc); try omega))
    all_goals first
      | (simp (disch := first | omega | (simp only [lnv]; omega)) only [wlk, ↓get_put', ↓reduceIte, seval]; done)
      | rfl
      | rw [e1]
      | rw [e2]
      | (simp (disch := first | omega | (simp only [lnv]; omega)) only [wlk, ↓get_put', ↓reduceIte, seval]; rfl)
theorem sm_all (hN : N ≤ 1000) : ∀ K, SmOk L N K
  | 0 => fun hK => absurd hK (Nat.not_lt_zero _)
  | K + 1 => fun hK rb h1 h2 h3 A Bs S hf => sm_step hN (sm_all hN K) hK rb h1 h2 h3 A Bs S hf
end
end Go.Proofs.Ythncpgkpkdolfaa

set_option linter.all false
namespace Go.Ev
open Go
/-- is the one at place i the last of its key -/
def lasK (M : List Wri) (i : Nat) : Prop := i + 1 = M.length ∨ (M.getD (i + 1) default).key ≠ (M.getD i default).key
instance (M : List Wri) (i : Nat) : Decidable (lasK M i) := by unfold lasK; infer_instance
def kpK (M : List Wri) : Nat → List Wri
  | 0 => []
  | i + 1 => if lasK M i then kpK M i ++ [M.getD i default] else kpK M i
theorem kpK_len (M : List Wri) : ∀ i, (kpK M i).length ≤ i
  | 0 => Nat.le_refl _
  | i + 1 => by
    have := kpK_len M i
    unfold kpK; split
    · rw [List.length_append]; simp; omega
    · omega
theorem kpK_mem {M : List Wri} {m : Wri} : ∀ i, m ∈ kpK M i ↔ ∃ j, j < i ∧ lasK M j ∧ m = M.getD j default
  | 0 => ⟨(fun h => by cases h), fun ⟨j, h, _⟩ => absurd h (Nat.not_lt_zero _)⟩
  | i + 1 => by
    have ih := kpK_mem (M := M) (m := m) i
    unfold kpK
    split
    · rename_i hl
      rw [List.mem_append, ih, List.mem_singleton]
      constructor
      · rintro (⟨j, h1, h2, h3⟩ | h)
        · exact ⟨j, by omega, h2, h3⟩
        · exact ⟨i, by omega, hl, h⟩
      · rintro ⟨j, h1, h2, h3⟩
        by_cases e : j = i
        · right; rw [← e]; exact h3
        · exact .inl ⟨j, by omega, h2, h3⟩
    · rename_i hl
      rw [ih]
      constructor
      · rintro ⟨j, h1, h2, h3⟩; exact ⟨j, by omega, h2, h3⟩
      · rintro ⟨j, h1, h2, h3⟩
        by_cases e : j = i
        · rw [e] at h2; exact absurd h2 hl
        · exact ⟨j, by omega, h2, h3⟩
/-- keys don't fall -/
def Wk (M : List Wri) : Prop := ∀ i j, i < j → j < M.length → Op.bytesLess (M.getD i default).key (M.getD j default).key = true ∨ (M.getD i default).key = (M.getD j default).key
theorem kpK_lt {M : List Wri} (h : Wk M) {i j : Nat} (hl : lasK M i) (hij : i < j) (hj : j < M.length) : Op.bytesLess (M.getD i default).key (M.getD j default).key = true := by
  have hne := hl.resolve_left (by omega)
  have h1 := (h i (i + 1) (by omega) (by omega)).resolve_right fun e => hne e.symm
  by_cases e : i + 1 = j
  · rw [← e]; exact h1
  · rcases h (i + 1) j (by omega) hj with h2 | h2
    · exact bl_trans h1 h2
    · rw [← h2]; exact h1
theorem kpK_up {M : List Wri} (h : Wk M) : ∀ i, i ≤ M.length → Up (kpK M i)
  | 0, _ => List.Pairwise.nil
  | i + 1, hi => by
    have ih := kpK_up h i (by omega)
    unfold kpK; split
    · rename_i hl
      refine List.pairwise_append.2 ⟨ih, List.pairwise_singleton .., fun a ha b hb => ?_⟩
      rw [List.mem_singleton] at hb
      subst hb
      obtain ⟨j, h1, h2, rfl⟩ := (kpK_mem i).1 ha
      exact kpK_lt h h2 h1 (by omega)
    · exact ih
theorem neatB_mem {L : List Wri} {m : Wri} : ∀ {j : Nat}, j ≤ L.length → (m ∈ neatB (L.take j) ↔ ∃ i, i < j ∧ L.getD i default = m ∧ ∀ k, i < k → k < j → (L.getD k default).key ≠ m.key)
  | 0, _ => ⟨(fun h => by simp [neatB] at h), fun ⟨i, h, _⟩ => absurd h (Nat.not_lt_zero _)⟩
  | j + 1, hj => by
    rw [neatB_step (by omega), insW_mem (neatB_up _), neatB_mem (by omega)]
    constructor
    · rintro (e | ⟨⟨i, h1, h2, h3⟩, h4⟩)
      · exact ⟨j, by omega, e.symm, fun k h1 h2 => by omega⟩
      · refine ⟨i, by omega, h2, fun k k1 k2 => ?_⟩
        by_cases e : k = j
        · rw [e]; exact fun h => h4 h.symm
        · exact h3 k k1 (by omega)
    · rintro ⟨i, h1, h2, h3⟩
      by_cases e : i = j
      · left; rw [← e]; exact h2.symm
      · refine .inr ⟨⟨i, by omega, h2, fun k k1 k2 => h3 k k1 (by omega)⟩, fun h => h3 j (by omega) (by omega) h.symm⟩
theorem kpK_neat {L : List Wri} {q : Nat → Nat} (hm : ∀ x, (∃ k, k < L.length ∧ q k = x) ↔ x < L.length) (hs : Srt L q 0 L.length) : kpK (rwK L q L.length) L.length = neatB L := by
  have ln : (rwK L q L.length).length = L.length := rwK_len
  have gt : ∀ i, i < L.length → (rwK L q L.length).getD i default = L.getD (q i) default := fun i hi => rwK_getD hi
  have hw : Wk (rwK L q L.length) := fun i j hij hj => by
    rw [ln] at hj
    rw [gt i (by omega), gt j hj]
    rcases hs i j (Nat.zero_le _) hij hj with h | ⟨h, _⟩
    · exact .inl h
    · exact .inr h
  refine up_ext (kpK_up hw _ (by rw [ln]; exact Nat.le_refl _)) (neatB_up L) fun m => ?_
  have hb := neatB_mem (L := L) (m := m) (j := L.length) (Nat.le_refl _)
  rw [List.take_length] at hb
  rw [kpK_mem, hb]
  constructor
  · rintro ⟨j, hj, hl, rfl⟩
    refine ⟨q j, (hm _).1 ⟨j, hj, rfl⟩, (gt j hj).symm, fun k hk hk2 he => ?_⟩
    obtain ⟨j2, h1, rfl⟩ := (hm k).2 hk2
    rw [← gt j2 h1] at he
    rcases Nat.lt_trichotomy j j2 with h | h | h
    · have h5 := kpK_lt hw hl h (by rw [ln]; exact h1)
      exact bl_ne h5 he.symm
    · rw [h] at hk; omega
    · rcases hs j2 j (Nat.zero_le _) h hj with h5 | ⟨_, h5⟩
      · unfold klK at h5
        rw [← gt j2 h1, ← gt j hj] at h5
        exact bl_ne h5 he
      · omega
  · rintro ⟨i, hi, rfl, h3⟩
    obtain ⟨j, hj, rfl⟩ := (hm i).2 hi
    refine ⟨j, hj, ?_, (gt j hj).symm⟩
    by_cases e : j + 1 = L.length
    · exact .inl (by rw [ln]; exact e)
    · right
      rw [gt j hj, gt (j + 1) (by omega)]
      intro he
      rcases hs j (j + 1) (Nat.zero_le _) (by omega) (by omega) with h5 | ⟨_, h5⟩
      · exact bl_ne h5 he.symm
      · exact h3 (q (j + 1)) h5 ((hm _).1 ⟨j + 1, by omega, rfl⟩) he
end Go.Ev

set_option maxRecDepth 1000000
set_option linter.all false
namespace Go.Proofs.Ythncpgkpkdolfaa
open Go Go.Ev
noncomputable abbrev s15_0 : CC := (CC.seq (CC.region [(wB 2 (doMove (O.c (V.b Bool.false))))]) CC.ret)
noncomputable abbrev s15_1 : CC := (CC.cond (tm 7) s15_0 CC.skip)
noncomputable abbrev s15_2 : CC := (CC.seq (CC.region [(wB 5 (doMove (tm 0))), (wB 6 (doLen (tm 5))), (wB 7 (bin2 fGtr (tm 6) (oN 8)))]) s15_1)
noncomputable abbrev s15_3 : CC := (CC.cond (tm 11) CC.skip (CC.exit 0))
noncomputable abbrev s15_4 : CC := (CC.seq (CC.region [(wB 2 (doMove (O.c (V.b Bool.false))))]) CC.ret)
noncomputable abbrev s15_5 : CC := (CC.cond (tm 17) s15_4 CC.skip)
noncomputable abbrev s15_6 : CC := (CC.seq (CC.region [(wB 15 (doLoadA 3 (tm 4))), (wB 16 (doCall 36 [(tm 15)])), (wB 17 (doNot (tm 16)))]) s15_5)
noncomputable abbrev s15_7 : CC := (CC.seq (CC.region [(wB 2 (doMove (O.c (V.b Bool.false))))]) CC.ret)
noncomputable abbrev s15_8 : CC := (CC.cond (tm 30) s15_7 CC.skip)
noncomputable abbrev s15_9 : CC := (CC.seq (CC.draws [(uB 18 (doMove (tm 3))), (uB 19 (bin2 fGtr (tm 18) (oN 0))), (uB 20 (doMove (tm 19))), (uG 20 true 21 (doMove (tm 0))), (uG 20 true 22 (doMove (tm 3))), (uG 20 true 23 (bin2 fSub (tm 22) (oN 1))), (uG 20 true 24 (doIndexAddr 3 (tm 21) (tm 23))), (uG 20 true 25 (doFieldAddr 0 (tm 24))), (uG 20 true 26 (doLoad (tm 25))), (uG 20 true 27 (doFieldAddr 0 (tm 4))), (uG 20 true 28 (doLoad (tm 27))), (uG 20 true 29 (doSCmp (fun a b c d => !ltS a b c d) (tm 26) (tm 28))), (uB 30 (doPick (tm 20) (tm 29) (O.c (V.b Bool.false))))]) s15_8)
noncomputable abbrev s15_10 : CC := (CC.seq s15_6 s15_9)
noncomputable abbrev s15_11 : CC := (CC.seq (CC.region [(wB 12 (doMove (tm 10))), (wB 13 (doIndexAddr 3 (tm 8) (tm 10))), (wB 14 (doLoadA 3 (tm 13))), (wB 4 (doAlloc 49 [(V.s 0 0), (V.b Bool.false), (V.s 0 0)])), (wB 3 (doMove (tm 12))), (CO.mk G.none D.none Bool.true (CR.mk (doStore 3 (tm 4) (tm 14))))]) s15_10)
noncomputable abbrev s15_12 : CC := (CC.block 1 s15_11)
noncomputable abbrev s15_13 : CC := (CC.region [(wB 31 (bin2 fAdd (tm 10) (oN 1))), (wB 10 (doMove (tm 31)))])
noncomputable abbrev s15_14 : CC := (CC.seq s15_12 s15_13)
noncomputable abbrev s15_15 : CC := (CC.seq s15_3 s15_14)
noncomputable abbrev l15_0 : CC := (CC.seq (CC.region [(wB 11 (bin2 fLss (tm 10) (tm 9)))]) s15_15)
noncomputable abbrev s15_16 : CC := (CC.loop l15_0)
noncomputable abbrev s15_17 : CC := (CC.block 0 s15_16)
noncomputable abbrev s15_18 : CC := (CC.seq (CC.region [(wB 8 (doMove (tm 0))), (wB 9 (doLen (tm 8))), (wB 10 (doMove (oN 0)))]) s15_17)
noncomputable abbrev s15_19 : CC := (CC.seq (CC.region [(wB 2 (doMove (O.c (V.b Bool.true))))]) CC.ret)
noncomputable abbrev s15_20 : CC := (CC.seq s15_18 s15_19)
noncomputable abbrev s15_21 : CC := (CC.seq s15_2 s15_20)
noncomputable abbrev b15 : CC := (CC.seq (CC.region [(wB 2 (doMove (O.c (V.b Bool.false))))]) s15_21)
theorem c15 : compFn Try.prog 15 = ⟨32, b15, [(Rs.tmp (slOf 2))]⟩ := by kernel_rfl
noncomputable abbrev s18_0 : CC := (CC.cond (tm 14) CC.skip (CC.exit 0))
noncomputable abbrev s18_1 : CC := (CC.region [(wB 34 (doMove (tm 4))), (wB 35 (doLoadA 3 (tm 6))), (wB 36 (doBuildSlice 49 1 [(V.s 0 0), (V.b Bool.false), (V.s 0 0)] [(Pt.mk 0 3 (tm 35))])), (wB 37 (doAppend 49 3 (tm 34) (tm 36))), (wB 4 (doMove (tm 37)))])
noncomputable abbrev s18_2 : CC := (CC.cond (tm 33) s18_1 CC.skip)
noncomputable abbrev s18_3 : CC := (CC.seq (CC.draws [(uB 18 (doMove (tm 5))), (uB 19 (bin2 fAdd (tm 18) (oN 1))), (uB 20 (doMove (tm 3))), (uB 21 (doLen (tm 20))), (uB 22 (bin2 fEql (tm 19) (tm 21))), (uB 23 (doMove (tm 22))), (uG 23 false 24 (doMove (tm 3))), (uG 23 false 25 (doMove (tm 5))), (uG 23 false 26 (bin2 fAdd (tm 25) (oN 1))), (uG 23 false 27 (doIndexAddr 3 (tm 24) (tm 26))), (uG 23 false 28 (doFieldAddr 0 (tm 27))), (uG 23 false 29 (doLoad (tm 28))), (uG 23 false 30 (doFieldAddr 0 (tm 6))), (uG 23 false 31 (doLoad (tm 30))), (uG 23 false 32 (doSCmp (fun a b c d => !eqS a b c d) (tm 29) (tm 31))), (uB 33 (doPick (tm 23) (O.c (V.b Bool.true)) (tm 32)))]) s18_2)
noncomputable abbrev s18_4 : CC := (CC.seq (CC.region [(wB 15 (doMove (tm 13))), (wB 16 (doIndexAddr 3 (tm 11) (tm 13))), (wB 17 (doLoadA 3 (tm 16))), (wB 6 (doAlloc 49 [(V.s 0 0), (V.b Bool.false), (V.s 0 0)])), (wB 5 (doMove (tm 15))), (CO.mk G.none D.none Bool.true (CR.mk (doStore 3 (tm 6) (tm 17))))]) s18_3)
noncomputable abbrev s18_5 : CC := (CC.block 1 s18_4)
noncomputable abbrev s18_6 : CC := (CC.region [(wB 38 (bin2 fAdd (tm 13) (oN 1))), (wB 13 (doMove (tm 38)))])
noncomputable abbrev s18_7 : CC := (CC.seq s18_5 s18_6)
noncomputable abbrev s18_8 : CC := (CC.seq s18_0 s18_7)
noncomputable abbrev l18_0 : CC := (CC.seq (CC.region [(wB 14 (bin2 fLss (tm 13) (tm 12)))]) s18_8)
noncomputable abbrev s18_9 : CC := (CC.loop l18_0)
noncomputable abbrev s18_10 : CC := (CC.block 0 s18_9)
noncomputable abbrev s18_11 : CC := (CC.seq (CC.region [(wB 11 (doMove (tm 3))), (wB 12 (doLen (tm 11))), (wB 13 (doMove (oN 0)))]) s18_10)
noncomputable abbrev s18_12 : CC := (CC.seq (CC.region [(wB 39 (doMove (tm 4))), (wB 2 (doMove (tm 39)))]) CC.ret)
noncomputable abbrev s18_13 : CC := (CC.seq s18_11 s18_12)
noncomputable abbrev s18_14 : CC := (CC.seq (CC.region [(wB 4 (doMove (O.c V.l0)))]) s18_13)
noncomputable abbrev s18_15 : CC := (CC.seq (CC.region [(wB 9 (doMove (tm 3))), (wB 10 (doCall 39 [(tm 9), (O.c (V.f 40 []))]))]) s18_14)
noncomputable abbrev s18_16 : CC := (CC.seq (CC.region [(wB 7 (doMove (tm 0))), (wB 8 (doCall 38 [(tm 7)])), (wB 3 (doMove (tm 8)))]) s18_15)
noncomputable abbrev b18 : CC := (CC.seq (CC.region [(wB 2 (doMove (O.c V.l0)))]) s18_16)
theorem c18 : compFn Try.prog 18 = ⟨40, b18, [(Rs.tmp (slOf 2))]⟩ := by kernel_rfl
noncomputable abbrev s9_0 : CC := (CC.seq (CC.region [(wB 4 (doMove (O.c (V.s 0 0)))), (wB 5 (doMove (oN 10)))]) CC.ret)
noncomputable abbrev s9_1 : CC := (CC.cond (tm 19) s9_0 CC.skip)
noncomputable abbrev s9_2 : CC := (CC.seq (CC.region [(wB 9 (doMove (tm 1))), (wB 10 (doCall 15 [(tm 9)])), (wB 11 (doNot (tm 10))), (wB 12 (doMove (tm 11))), (wG 12 false 13 (doMove (tm 0))), (wG 12 false 14 (bin2 fLss (tm 13) (oN 1))), (wB 15 (doPick (tm 12) (O.c (V.b Bool.true)) (tm 14))), (wB 16 (doMove (tm 15))), (wG 16 false 17 (doMove (tm 0))), (wG 16 false 18 (bin2 fGtr (tm 17) (oN 1000000))), (wB 19 (doPick (tm 16) (O.c (V.b Bool.true)) (tm 18)))]) s9_1)
noncomputable abbrev s9_3 : CC := (CC.cond (tm 30) CC.skip (CC.exit 0))
noncomputable abbrev s9_4 : CC := (CC.region [(wB 33 (doLoadA 3 (tm 8))), (wB 34 (doCall 25 [(tm 33)])), (wB 35 (doCall 23 [(tm 6), (tm 34)]))])
noncomputable abbrev s9_5 : CC := (CC.seq (CC.region [(wB 31 (doIndexAddr 3 (tm 27) (tm 29))), (wB 32 (doLoadA 3 (tm 31))), (wB 8 (doAlloc 49 [(V.s 0 0), (V.b Bool.false), (V.s 0 0)])), (CO.mk G.none D.none Bool.true (CR.mk (doStore 3 (tm 8) (tm 32))))]) s9_4)
noncomputable abbrev s9_6 : CC := (CC.block 1 s9_5)
noncomputable abbrev s9_7 : CC := (CC.region [(wB 36 (bin2 fAdd (tm 29) (oN 1))), (wB 29 (doMove (tm 36)))])
noncomputable abbrev s9_8 : CC := (CC.seq s9_6 s9_7)
noncomputable abbrev s9_9 : CC := (CC.seq s9_3 s9_8)
noncomputable abbrev l9_0 : CC := (CC.seq (CC.region [(wB 30 (bin2 fLss (tm 29) (tm 28)))]) s9_9)
noncomputable abbrev s9_10 : CC := (CC.loop l9_0)
noncomputable abbrev s9_11 : CC := (CC.block 0 s9_10)
noncomputable abbrev s9_12 : CC := (CC.seq (CC.region [(wB 27 (doMove (tm 1))), (wB 28 (doLen (tm 27))), (wB 29 (doMove (oN 0)))]) s9_11)
noncomputable abbrev s9_13 : CC := (CC.seq (CC.region [(wB 37 (doCall 27 [(tm 6)])), (wB 38 (doCall 26 [(tm 37)])), (wB 4 (doMove (tm 38))), (wB 5 (doMove (oN 0)))]) CC.ret)
noncomputable abbrev s9_14 : CC := (CC.seq s9_12 s9_13)
noncomputable abbrev s9_15 : CC := (CC.seq (CC.region [(wB 23 (doMove (tm 1))), (wB 24 (doLen (tm 23))), (wB 25 (doCall 24 [(tm 24)])), (wB 26 (doCall 23 [(tm 6), (tm 25)]))]) s9_14)
noncomputable abbrev s9_16 : CC := (CC.seq (CC.region [(wB 20 (doMove (tm 0))), (wB 21 (doCall 24 [(tm 20)])), (wB 22 (doCall 23 [(tm 6), (tm 21)]))]) s9_15)
noncomputable abbrev s9_17 : CC := (CC.seq (CC.region [(wB 6 (doAlloc 54 [V.p0, V.l0]))]) s9_16)
noncomputable abbrev s9_18 : CC := (CC.seq s9_2 s9_17)
noncomputable abbrev b9 : CC := (CC.seq (CC.region [(wB 4 (doMove (O.c (V.s 0 0)))), (wB 5 (doMove (oN 0)))]) s9_18)
theorem c9 : compFn Try.prog 9 = ⟨39, b9, [(Rs.tmp (slOf 4)), (Rs.tmp (slOf 5))]⟩ := by kernel_rfl
noncomputable abbrev s11_0 : CC := (CC.seq (CC.region [(wB 21 (doMove (tm 8))), (wB 2 (doMove (oN 0))), (wB 3 (doMove (O.c V.l0))), (wB 4 (doMove (oN 0))), (wB 5 (doMove (tm 21)))]) CC.ret)
noncomputable abbrev s11_1 : CC := (CC.cond (tm 20) s11_0 CC.skip)
noncomputable abbrev s11_2 : CC := (CC.seq (CC.region [(wB 19 (doMove (tm 8))), (wB 20 (bin2 fNeq (tm 19) (oN 0)))]) s11_1)
noncomputable abbrev s11_3 : CC := (CC.seq (CC.region [(wB 2 (doMove (oN 0))), (wB 3 (doMove (O.c V.l0))), (wB 4 (doMove (oN 0))), (wB 5 (doMove (oN 10)))]) CC.ret)
noncomputable abbrev s11_4 : CC := (CC.cond (tm 37) s11_3 CC.skip)
noncomputable abbrev s11_5 : CC := (CC.seq (CC.region [(wB 33 (doMove (tm 11))), (wB 34 (doMove (tm 0))), (wB 35 (doMove (tm 7))), (wB 36 (doSSlice (tm 34) none (some (tm 35)))), (wB 37 (doSCmp (fun a b c d => !eqS a b c d) (tm 33) (tm 36)))]) s11_4)
noncomputable abbrev s11_6 : CC := (CC.seq (CC.region [(wB 28 (doMove (tm 9))), (wB 29 (doMove (tm 10))), (wB 30 (doCall 9 [(tm 28), (tm 29)])), (wB 27 (doMove (tm 30))), (wB 31 (doExtract 0 (tm 27))), (wB 32 (doExtract 1 (tm 27))), (wB 11 (doMove (tm 31))), (wB 12 (doMove (tm 32)))]) s11_5)
noncomputable abbrev s11_7 : CC := (CC.seq (CC.region [(wB 38 (doMove (tm 9))), (wB 39 (doMove (tm 10))), (wB 40 (doMove (tm 7))), (wB 2 (doMove (tm 38))), (wB 3 (doMove (tm 39))), (wB 4 (doMove (tm 40))), (wB 5 (doMove (oN 0)))]) CC.ret)
noncomputable abbrev s11_8 : CC := (CC.seq s11_6 s11_7)
noncomputable abbrev s11_9 : CC := (CC.seq (CC.region [(wB 23 (doMove (tm 6))), (wB 24 (doCall 32 [(tm 23)])), (wB 22 (doMove (tm 24))), (wB 25 (doExtract 0 (tm 22))), (wB 26 (doExtract 1 (tm 22))), (wB 9 (doMove (tm 25))), (wB 10 (doMove (tm 26)))]) s11_8)
noncomputable abbrev s11_10 : CC := (CC.seq s11_2 s11_9)
noncomputable abbrev s11_11 : CC := (CC.seq (CC.region [(wB 14 (doMove (tm 0))), (wB 15 (doCall 31 [(tm 14)])), (wB 13 (doMove (tm 15))), (wB 16 (doExtract 0 (tm 13))), (wB 17 (doExtract 1 (tm 13))), (wB 18 (doExtract 2 (tm 13))), (wB 6 (doMove (tm 16))), (wB 7 (doMove (tm 17))), (wB 8 (doMove (tm 18)))]) s11_10)
noncomputable abbrev b11 : CC := (CC.seq (CC.region [(wB 2 (doMove (oN 0))), (wB 3 (doMove (O.c V.l0))), (wB 4 (doMove (oN 0))), (wB 5 (doMove (oN 0)))]) s11_11)
theorem c11 : compFn Try.prog 11 = ⟨41, b11, [(Rs.tmp (slOf 2)), (Rs.tmp (slOf 3)), (Rs.tmp (slOf 4)), (Rs.tmp (slOf 5))]⟩ := by kernel_rfl
noncomputable abbrev s21_0 : CC := (CC.seq (CC.region [(wB 4 (doMove (O.c V.l0)))]) CC.ret)
noncomputable abbrev s21_1 : CC := (CC.cond (tm 10) s21_0 CC.skip)
noncomputable abbrev s21_2 : CC := (CC.seq (CC.region [(wB 8 (doMove (tm 1))), (wB 9 (doCall 15 [(tm 8)])), (wB 10 (doNot (tm 9)))]) s21_1)
noncomputable abbrev s21_3 : CC := (CC.cond (tm 14) CC.skip (CC.exit 0))
noncomputable abbrev s21_4 : CC := (CC.region [(wB 17 (doMove (tm 5))), (wB 18 (doFieldAddr 0 (tm 7))), (wB 19 (doLoad (tm 18))), (wB 20 (doMove (tm 0))), (wB 21 (doFieldAddr 1 (tm 7))), (wB 22 (doLoad (tm 21))), (wB 23 (doFieldAddr 2 (tm 7))), (wB 24 (doLoad (tm 23))), (wB 25 (doBuild [(V.s 0 0), (V.i IntKind.i64 (Int.ofNat 0)), (V.b Bool.false), (V.s 0 0)] [(Pt.mk 0 1 (tm 19)), (Pt.mk 1 1 (tm 20)), (Pt.mk 2 1 (tm 22)), (Pt.mk 3 1 (tm 24))])), (wB 26 (doBuildSlice 79 1 [(V.s 0 0), (V.i IntKind.i64 (Int.ofNat 0)), (V.b Bool.false), (V.s 0 0)] [(Pt.mk 0 4 (tm 25))])), (wB 27 (doAppend 79 4 (tm 17) (tm 26))), (wB 5 (doMove (tm 27)))])
noncomputable abbrev s21_5 : CC := (CC.seq (CC.region [(wB 15 (doIndexAddr 3 (tm 11) (tm 13))), (wB 16 (doLoadA 3 (tm 15))), (wB 7 (doAlloc 49 [(V.s 0 0), (V.b Bool.false), (V.s 0 0)])), (CO.mk G.none D.none Bool.true (CR.mk (doStore 3 (tm 7) (tm 16))))]) s21_4)
noncomputable abbrev s21_6 : CC := (CC.block 1 s21_5)
noncomputable abbrev s21_7 : CC := (CC.region [(wB 28 (bin2 fAdd (tm 13) (oN 1))), (wB 13 (doMove (tm 28)))])
noncomputable abbrev s21_8 : CC := (CC.seq s21_6 s21_7)
noncomputable abbrev s21_9 : CC := (CC.seq s21_3 s21_8)
noncomputable abbrev l21_0 : CC := (CC.seq (CC.region [(wB 14 (bin2 fLss (tm 13) (tm 12)))]) s21_9)
noncomputable abbrev s21_10 : CC := (CC.loop l21_0)
noncomputable abbrev s21_11 : CC := (CC.block 0 s21_10)
noncomputable abbrev s21_12 : CC := (CC.seq (CC.region [(wB 11 (doMove (tm 1))), (wB 12 (doLen (tm 11))), (wB 13 (doMove (oN 0)))]) s21_11)
noncomputable abbrev s21_13 : CC := (CC.seq (CC.region [(wB 29 (doMove (tm 5))), (wB 4 (doMove (tm 29)))]) CC.ret)
noncomputable abbrev s21_14 : CC := (CC.seq s21_12 s21_13)
noncomputable abbrev s21_15 : CC := (CC.seq (CC.region [(wB 5 (doMove (O.c V.l0)))]) s21_14)
noncomputable abbrev s21_16 : CC := (CC.seq s21_2 s21_15)
noncomputable abbrev b21 : CC := (CC.seq (CC.region [(wB 4 (doMove (O.c V.l0)))]) s21_16)
theorem c21 : compFn Try.prog 21 = ⟨30, b21, [(Rs.tmp (slOf 4))]⟩ := by kernel_rfl
noncomputable abbrev s13_0 : CC := (CC.cond (tm 24) (CC.exit 0) CC.skip)
noncomputable abbrev s13_1 : CC := (CC.seq (CC.region [(wB 25 (doMove (tm 7))), (wB 26 (bin2 fGtr (tm 25) (oN 0))), (wB 27 (doMove (tm 26))), (wG 27 true 28 (doMove (tm 8))), (wG 27 true 29 (doMove (tm 6))), (wG 27 true 30 (bin2 fAdd (tm 29) (oN 1))), (wG 27 true 31 (bin2 fNeq (tm 28) (tm 30))), (wB 32 (doPick (tm 27) (tm 31) (O.c (V.b Bool.false)))), (wB 24 (doMove (tm 32)))]) s13_0)
noncomputable abbrev s13_2 : CC := (CC.cond (tm 21) (CC.exit 0) s13_1)
noncomputable abbrev s13_3 : CC := (CC.seq (CC.region [(wB 22 (doMove (tm 11))), (wB 23 (bin2 fNeq (tm 22) (oN 0))), (wB 21 (doMove (tm 23)))]) s13_2)
noncomputable abbrev s13_4 : CC := (CC.block 2 s13_3)
noncomputable abbrev s13_5 : CC := (CC.region [(wB 38 (doMove (tm 8))), (wB 39 (doMove (tm 7))), (wB 40 (doMove (tm 10))), (wB 41 (bin2 fAdd (tm 39) (tm 40))), (wB 6 (doMove (tm 38))), (wB 7 (doMove (tm 41)))])
noncomputable abbrev s13_6 : CC := (CC.seq (CC.region [(wB 33 (doMove (tm 5))), (wB 34 (doMove (tm 8))), (wB 35 (doMove (tm 9))), (wB 36 (doCall 21 [(tm 34), (tm 35)])), (wB 37 (doAppend 79 4 (tm 33) (tm 36))), (wB 5 (doMove (tm 37)))]) s13_5)
noncomputable abbrev s13_7 : CC := (CC.seq s13_4 s13_6)
noncomputable abbrev s13_8 : CC := (CC.seq (CC.region [(wB 13 (doMove (tm 0))), (wB 14 (doMove (tm 7))), (wB 15 (doSSlice (tm 13) (some (tm 14)) none)), (wB 16 (doCall 11 [(tm 15)])), (wB 12 (doMove (tm 16))), (wB 17 (doExtract 0 (tm 12))), (wB 18 (doExtract 1 (tm 12))), (wB 19 (doExtract 2 (tm 12))), (wB 20 (doExtract 3 (tm 12))), (wB 8 (doMove (tm 17))), (wB 9 (doMove (tm 18))), (wB 10 (doMove (tm 19))), (wB 11 (doMove (tm 20)))]) s13_7)
noncomputable abbrev l13_0 : CC := (CC.block 1 s13_8)
noncomputable abbrev s13_9 : CC := (CC.loop l13_0)
noncomputable abbrev s13_10 : CC := (CC.block 0 s13_9)
noncomputable abbrev s13_11 : CC := (CC.seq (CC.region [(wB 42 (doMove (tm 5))), (wB 43 (doMove (tm 6))), (wB 44 (doMove (tm 7))), (wB 2 (doMove (tm 42))), (wB 3 (doMove (tm 43))), (wB 4 (doMove (tm 44)))]) CC.ret)
noncomputable abbrev s13_12 : CC := (CC.seq s13_10 s13_11)
noncomputable abbrev s13_13 : CC := (CC.seq CC.skip s13_12)
noncomputable abbrev s13_14 : CC := (CC.seq (CC.region [(wB 6 (doMove (oN 0))), (wB 7 (doMove (oN 0)))]) s13_13)
noncomputable abbrev s13_15 : CC := (CC.seq (CC.region [(wB 5 (doMove (O.c V.l0)))]) s13_14)
noncomputable abbrev b13 : CC := (CC.seq (CC.region [(wB 2 (doMove (O.c V.l0))), (wB 3 (doMove (oN 0))), (wB 4 (doMove (oN 0)))]) s13_15)
theorem c13 : compFn Try.prog 13 = ⟨45, b13, [(Rs.tmp (slOf 2)), (Rs.tmp (slOf 3)), (Rs.tmp (slOf 4))]⟩ := by kernel_rfl
noncomputable abbrev s25_0 : CC := (CC.seq (CC.draws [(uB 5 (doFieldAddr 0 (tm 1))), (uB 6 (doLoad (tm 5))), (uB 7 (doCall 43 [(tm 6)])), (uB 8 (doBuildSlice 5 1 [(V.i IntKind.u8 (Int.ofNat 0))] [(Pt.mk 0 1 (O.c (V.i IntKind.u8 (Int.ofNat 1))))])), (uB 9 (doB2S (tm 8))), (uB 10 (doConcat (tm 7) (tm 9))), (uB 2 (doMove (tm 10)))]) CC.ret)
noncomputable abbrev s25_1 : CC := (CC.cond (tm 4) s25_0 CC.skip)
noncomputable abbrev s25_2 : CC := (CC.seq (CC.region [(wB 3 (doFieldAddr 1 (tm 1))), (wB 4 (doLoad (tm 3)))]) s25_1)
noncomputable abbrev s25_3 : CC := (CC.seq (CC.draws [(uB 11 (doFieldAddr 0 (tm 1))), (uB 12 (doLoad (tm 11))), (uB 13 (doCall 43 [(tm 12)])), (uB 14 (doBuildSlice 5 1 [(V.i IntKind.u8 (Int.ofNat 0))] [(Pt.mk 0 1 (O.c (V.i IntKind.u8 (Int.ofNat 0))))])), (uB 15 (doB2S (tm 14))), (uB 16 (doConcat (tm 13) (tm 15))), (uB 17 (doFieldAddr 2 (tm 1))), (uB 18 (doLoad (tm 17))), (uB 19 (doCall 43 [(tm 18)])), (uB 20 (doConcat (tm 16) (tm 19))), (uB 2 (doMove (tm 20)))]) CC.ret)
noncomputable abbrev s25_4 : CC := (CC.seq s25_2 s25_3)
noncomputable abbrev b25 : CC := (CC.seq (CC.region [(wB 1 (doBox 49 (tm 0))), (wB 2 (doMove (O.c (V.s 0 0))))]) s25_4)
theorem c25 : compFn Try.prog 25 = ⟨21, b25, [(Rs.tmp (slOf 2))]⟩ := by kernel_rfl
noncomputable abbrev s32_0 : CC := (CC.seq (CC.region [(wB 2 (doMove (oN 0))), (wB 3 (doMove (O.c V.l0)))]) CC.ret)
noncomputable abbrev s32_1 : CC := (CC.cond (tm 20) s32_0 CC.skip)
noncomputable abbrev s32_2 : CC := (CC.seq (CC.region [(wB 19 (doMove (tm 6))), (wB 20 (bin2 fNeq (tm 19) (oN 0)))]) s32_1)
noncomputable abbrev s32_3 : CC := (CC.seq (CC.region [(wB 2 (doMove (oN 0))), (wB 3 (doMove (O.c V.l0)))]) CC.ret)
noncomputable abbrev s32_4 : CC := (CC.cond (tm 34) s32_3 CC.skip)
noncomputable abbrev s32_5 : CC := (CC.seq (CC.region [(wB 29 (doMove (tm 6))), (wB 30 (bin2 fNeq (tm 29) (oN 0))), (wB 31 (doMove (tm 30))), (wG 31 false 32 (doMove (tm 7))), (wG 31 false 33 (bin2 fGtr (tm 32) (oN 8))), (wB 34 (doPick (tm 31) (O.c (V.b Bool.true)) (tm 33)))]) s32_4)
noncomputable abbrev s32_6 : CC := (CC.cond (tm 40) CC.skip (CC.exit 0))
noncomputable abbrev s32_7 : CC := (CC.seq (CC.region [(wB 2 (doMove (oN 0))), (wB 3 (doMove (O.c V.l0)))]) CC.ret)
noncomputable abbrev s32_8 : CC := (CC.cond (tm 50) s32_7 CC.skip)
noncomputable abbrev s32_9 : CC := (CC.seq (CC.region [(wB 49 (doMove (tm 12))), (wB 50 (doNot (tm 49)))]) s32_8)
noncomputable abbrev s32_10 : CC := (CC.region [(wB 55 (doMove (tm 5))), (wB 56 (doMove (tm 11))), (wB 57 (bin2 fAdd (tm 55) (tm 56))), (wB 5 (doMove (tm 57)))])
noncomputable abbrev s32_11 : CC := (CC.seq (CC.region [(wB 51 (doMove (tm 9))), (wB 52 (doLoadA 3 (tm 10))), (wB 53 (doBuildSlice 49 1 [(V.s 0 0), (V.b Bool.false), (V.s 0 0)] [(Pt.mk 0 3 (tm 52))])), (wB 54 (doAppend 49 3 (tm 51) (tm 53))), (wB 9 (doMove (tm 54)))]) s32_10)
noncomputable abbrev s32_12 : CC := (CC.seq s32_9 s32_11)
noncomputable abbrev s32_13 : CC := (CC.seq (CC.region [(wB 42 (doMove (tm 0))), (wB 43 (doMove (tm 5))), (wB 44 (doSSlice (tm 42) (some (tm 43)) none)), (wB 45 (doCall 49 [(tm 44)])), (wB 41 (doMove (tm 45))), (wB 46 (doExtract 0 (tm 41))), (wB 47 (doExtract 1 (tm 41))), (wB 48 (doExtract 2 (tm 41))), (wB 10 (doAlloc 49 [(V.s 0 0), (V.b Bool.false), (V.s 0 0)])), (CO.mk G.none D.none Bool.true (CR.mk (doStore 3 (tm 10) (tm 46)))), (wB 11 (doMove (tm 47))), (wB 12 (doMove (tm 48)))]) s32_12)
noncomputable abbrev s32_14 : CC := (CC.block 1 s32_13)
noncomputable abbrev s32_15 : CC := (CC.region [(wB 58 (bin2 fAdd (tm 39) (oN 1))), (wB 39 (doMove (tm 58)))])
noncomputable abbrev s32_16 : CC := (CC.seq s32_14 s32_15)
noncomputable abbrev s32_17 : CC := (CC.seq s32_6 s32_16)
noncomputable abbrev l32_0 : CC := (CC.seq (CC.region [(wB 40 (bin2 fLss (tm 39) (tm 38)))]) s32_17)
noncomputable abbrev s32_18 : CC := (CC.loop l32_0)
noncomputable abbrev s32_19 : CC := (CC.block 0 s32_18)
noncomputable abbrev s32_20 : CC := (CC.seq (CC.region [(wB 38 (doMove (tm 7))), (wB 39 (doMove (oN 0)))]) s32_19)
noncomputable abbrev s32_21 : CC := (CC.seq (CC.region [(wB 59 (doMove (tm 4))), (wB 60 (doMove (tm 9))), (wB 2 (doMove (tm 59))), (wB 3 (doMove (tm 60)))]) CC.ret)
noncomputable abbrev s32_22 : CC := (CC.seq s32_20 s32_21)
noncomputable abbrev s32_23 : CC := (CC.seq (CC.region [(wB 9 (doMove (O.c V.l0)))]) s32_22)
noncomputable abbrev s32_24 : CC := (CC.seq (CC.region [(wB 35 (doMove (tm 5))), (wB 36 (doMove (tm 8))), (wB 37 (bin2 fAdd (tm 35) (tm 36))), (wB 5 (doMove (tm 37)))]) s32_23)
noncomputable abbrev s32_25 : CC := (CC.seq s32_5 s32_24)
noncomputable abbrev s32_26 : CC := (CC.seq (CC.region [(wB 22 (doMove (tm 0))), (wB 23 (doMove (tm 5))), (wB 24 (doSSlice (tm 22) (some (tm 23)) none)), (wB 25 (doCall 48 [(tm 24)])), (wB 21 (doMove (tm 25))), (wB 26 (doExtract 0 (tm 21))), (wB 27 (doExtract 1 (tm 21))), (wB 28 (doExtract 2 (tm 21))), (wB 7 (doMove (tm 26))), (wB 8 (doMove (tm 27))), (wB 6 (doMove (tm 28)))]) s32_25)
noncomputable abbrev s32_27 : CC := (CC.seq s32_2 s32_26)
noncomputable abbrev s32_28 : CC := (CC.seq (CC.region [(wB 14 (doMove (tm 0))), (wB 15 (doCall 48 [(tm 14)])), (wB 13 (doMove (tm 15))), (wB 16 (doExtract 0 (tm 13))), (wB 17 (doExtract 1 (tm 13))), (wB 18 (doExtract 2 (tm 13))), (wB 4 (doMove (tm 16))), (wB 5 (doMove (tm 17))), (wB 6 (doMove (tm 18)))]) s32_27)
noncomputable abbrev b32 : CC := (CC.seq (CC.region [(wB 2 (doMove (oN 0))), (wB 3 (doMove (O.c V.l0)))]) s32_28)
theorem c32 : compFn Try.prog 32 = ⟨61, b32, [(Rs.tmp (slOf 2)), (Rs.tmp (slOf 3))]⟩ := by kernel_rfl
noncomputable abbrev s49_0 : CC := (CC.seq (CC.region [(wB 26 (doBuild [(V.s 0 0), (V.b Bool.false), (V.s 0 0)] [])), (CO.mk G.none D.none Bool.true (CR.mk (doStore 3 (tm 2) (tm 26)))), (wB 3 (doMove (oN 0))), (wB 4 (doMove (O.c (V.b Bool.false))))]) CC.ret)
noncomputable abbrev s49_1 : CC := (CC.cond (tm 25) s49_0 CC.skip)
noncomputable abbrev s49_2 : CC := (CC.seq (CC.region [(wB 18 (doMove (tm 7))), (wB 19 (bin2 fNeq (tm 18) (oN 0))), (wB 20 (doMove (tm 19))), (wG 20 false 21 (doMove (tm 6))), (wG 20 false 22 (doMove (tm 0))), (wG 20 false 23 (doLenS (tm 22))), (wG 20 false 24 (bin2 fEql (tm 21) (tm 23))), (wB 25 (doPick (tm 20) (O.c (V.b Bool.true)) (tm 24)))]) s49_1)
noncomputable abbrev s49_3 : CC := (CC.seq (CC.region [(wB 44 (doMove (tm 5))), (wB 45 (doMove (tm 9))), (wB 46 (doBuild [(V.s 0 0), (V.b Bool.false), (V.s 0 0)] [(Pt.mk 0 1 (tm 44)), (Pt.mk 2 1 (tm 45))])), (wB 47 (doMove (tm 6))), (wB 48 (doMove (tm 10))), (wB 49 (bin2 fAdd (tm 47) (tm 48))), (wB 50 (doMove (tm 11))), (wB 51 (bin2 fEql (tm 50) (oN 0))), (CO.mk G.none D.none Bool.true (CR.mk (doStore 3 (tm 2) (tm 46)))), (wB 3 (doMove (tm 49))), (wB 4 (doMove (tm 51)))]) CC.ret)
noncomputable abbrev s49_4 : CC := (CC.seq (CC.region [(wB 37 (doMove (tm 0))), (wB 38 (doMove (tm 6))), (wB 39 (doSSlice (tm 37) (some (tm 38)) none)), (wB 40 (doCall 56 [(tm 39)])), (wB 36 (doMove (tm 40))), (wB 41 (doExtract 0 (tm 36))), (wB 42 (doExtract 1 (tm 36))), (wB 43 (doExtract 2 (tm 36))), (wB 9 (doMove (tm 41))), (wB 10 (doMove (tm 42))), (wB 11 (doMove (tm 43)))]) s49_3)
noncomputable abbrev s49_5 : CC := (CC.seq (CC.region [(wB 54 (doMove (tm 5))), (wB 55 (doBuild [(V.s 0 0), (V.b Bool.false), (V.s 0 0)] [(Pt.mk 0 1 (tm 54)), (Pt.mk 1 1 (O.c (V.b Bool.true)))])), (wB 56 (doMove (tm 6))), (CO.mk G.none D.none Bool.true (CR.mk (doStore 3 (tm 2) (tm 55)))), (wB 3 (doMove (tm 56))), (wB 4 (doMove (O.c (V.b Bool.true))))]) CC.ret)
noncomputable abbrev s49_6 : CC := (CC.seq (CC.region [(wB 33 (doBuild [(V.s 0 0), (V.b Bool.false), (V.s 0 0)] [])), (CO.mk G.none D.none Bool.true (CR.mk (doStore 3 (tm 2) (tm 33)))), (wB 3 (doMove (oN 0))), (wB 4 (doMove (O.c (V.b Bool.false))))]) CC.ret)
noncomputable abbrev s49_7 : CC := (CC.cond (tm 52) s49_5 s49_6)
noncomputable abbrev s49_8 : CC := (CC.seq (CC.region [(wB 53 (bin2 fEql (tm 32) (O.c (V.i IntKind.u8 (Int.ofNat 1))))), (wB 52 (doMove (tm 53)))]) s49_7)
noncomputable abbrev s49_9 : CC := (CC.cond (tm 34) s49_4 s49_8)
noncomputable abbrev s49_10 : CC := (CC.seq (CC.region [(wB 35 (bin2 fEql (tm 32) (O.c (V.i IntKind.u8 (Int.ofNat 0))))), (wB 34 (doMove (tm 35)))]) s49_9)
noncomputable abbrev s49_11 : CC := (CC.block 0 s49_10)
noncomputable abbrev s49_12 : CC := (CC.seq (CC.region [(wB 32 (doMove (tm 8)))]) s49_11)
noncomputable abbrev s49_13 : CC := (CC.seq (CC.region [(wB 30 (doMove (tm 6))), (wB 31 (bin2 fAdd (tm 30) (oN 1))), (wB 6 (doMove (tm 31)))]) s49_12)
noncomputable abbrev s49_14 : CC := (CC.seq (CC.region [(wB 27 (doMove (tm 0))), (wB 28 (doMove (tm 6))), (wB 29 (doSIndex (tm 27) (tm 28))), (wB 8 (doMove (tm 29)))]) s49_13)
noncomputable abbrev s49_15 : CC := (CC.seq s49_2 s49_14)
noncomputable abbrev s49_16 : CC := (CC.seq (CC.region [(wB 13 (doMove (tm 0))), (wB 14 (doCall 56 [(tm 13)])), (wB 12 (doMove (tm 14))), (wB 15 (doExtract 0 (tm 12))), (wB 16 (doExtract 1 (tm 12))), (wB 17 (doExtract 2 (tm 12))), (wB 5 (doMove (tm 15))), (wB 6 (doMove (tm 16))), (wB 7 (doMove (tm 17)))]) s49_15)
noncomputable abbrev b49 : CC := (CC.seq (CC.region [(wB 2 (doAlloc 49 [(V.s 0 0), (V.b Bool.false), (V.s 0 0)])), (wB 3 (doMove (oN 0))), (wB 4 (doMove (O.c (V.b Bool.false))))]) s49_16)
theorem c49 : compFn Try.prog 49 = ⟨57, b49, [(Rs.cellA (slOf 2) 3), (Rs.tmp (slOf 3)), (Rs.tmp (slOf 4))]⟩ := by kernel_rfl
end Go.Proofs.Ythncpgkpkdolfaa

set_option maxRecDepth 100000
set_option maxHeartbeats 8000000
set_option linter.all false
namespace Go.Proofs.Ythncpgkpkdolfaa
open Go Go.Ev
section
variable {L : List Wri}
theorem isortW0_ok {h : H} {v c : V} : FnOk Try.prog 57 [v, .i .i64 0, .i .i64 0, c] h fun y h' => h' = h := by
  refine fn_go c57 (by intro hb; cases hb) (by simp) (by simp) fun Q hQ => ?_
  simp only [slotsF, Nat.reduceAdd]
  repeat' (first
    | refine St.h ?_
    | simp (disch := first | omega | (simp only [lnv]; omega)) only [wlk, ↓get_put', ↓reduceIte, seval]
    | (with_reducible (first | apply cd_split | apply gd_split)) <;> (intro hc; (try simp only [hcn] at hc); (try simp only [hc]); (try simp only [hcl] at hc); try omega))
  refine Ok.lp (fun m t g => m = 0 ∧ h = g ∧ get 2 t = .i .i64 0 ∧ get 8 t = .i .i64 1) 0 ?_ ?_
  · simp (disch := first | omega | (simp only [lnv]; omega)) only [wlk, ↓get_put', ↓reduceIte, seval]
    repeat' (first | trivial | rfl | refine And.intro ?_ ?_)
  rintro I hI m t g ⟨rfl, rfl, f2, f8⟩
  repeat' (first
    | refine St.h ?_
    | simp (disch := first | omega | (simp only [lnv]; omega)) only [wlk, ↓get_put', ↓reduceIte, seval, f2, f8]
    | (with_reducible (first | apply cd_split | apply gd_split)) <;> (intro hc; (try simp only [hcn] at hc); (try simp only [hc]); (try simp only [hcl] at hc); try omega))
  subst hQ
  rfl
theorem stable0_ok {h : H} {v c : V} : FnOk Try.prog 51 [v, .i .i64 0, c] h fun y h' => h' = h := by
  refine fn_go c51 (by intro hb; cases hb) (by simp) (by simp) fun Q hQ => ?_
  simp only [slotsF, Nat.reduceAdd]
  repeat' (first
    | refine St.h ?_
    | simp (disch := first | omega | (simp only [lnv]; omega)) only [wlk, ↓get_put', ↓reduceIte, seval]
    | (with_reducible (first | apply cd_split | apply gd_split)) <;> (intro hc; (try simp only [hcn] at hc); (try simp only [hc]); (try simp only [hcl] at hc); try omega))
  refine Ok.lp (fun m t g => m = 0 ∧ h = g ∧ get 0 t = v ∧ get 1 t = .i .i64 0 ∧ get 2 t = c ∧ get 6 t = .i .i64 20 ∧ get 7 t = .i .i64 0 ∧ get 8 t = .i .i64 20) 0 ?_ ?_
  · simp (disch := first | omega | (simp only [lnv]; omega)) only [wlk, ↓get_put', ↓reduceIte, seval]
    repeat' (first | trivial | rfl | refine And.intro ?_ ?_)
  rintro I hI m t g ⟨rfl, rfl, f0, f1, f2, f6, f7, f8⟩
  repeat' (first
    | refine St.h ?_
    | simp (disch := first | omega | (simp only [lnv]; omega)) only [wlk, ↓get_put', ↓reduceIte, seval, f0, f1, f2, f6, f7, f8]
    | (with_reducible (first | apply cd_split | apply gd_split)) <;> (intro hc; (try simp only [hcn] at hc); (try simp only [hc]); (try simp only [hcl] at hc); try omega))
  refine CL.mk isortW0_ok ?_
  rintro y g1 rfl
  repeat' (first
    | refine St.h ?_
    | simp (disch := first | omega | (simp only [lnv]; omega)) only [wlk, ↓get_put', ↓reduceIte, seval, f0, f1, f2, f6, f7, f8]
    | (with_reducible (first | apply cd_split | apply gd_split)) <;> (intro hc; (try simp only [hcn] at hc); (try simp only [hc]); (try simp only [hcl] at hc); try omega))
  refine Ok.lp (fun m t g => m = 0 ∧ g1 = g ∧ get 0 t = v ∧ get 1 t = .i .i64 0 ∧ get 6 t = .i .i64 20) 0 ?_ ?_
  · simp (disch := first | omega | (simp only [lnv]; omega)) only [wlk, ↓get_put', ↓reduceIte, seval, f0, f1, f6]
    repeat' (first | trivial | rfl | refine And.intro ?_ ?_)
  rintro I2 hI2 m t g ⟨rfl, rfl, f0, f1, f6⟩
  repeat' (first
    | refine St.h ?_
    | simp (disch := first | omega | (simp only [lnv]; omega)) only [wlk, ↓get_put', ↓reduceIte, seval, f0, f1, f6]
    | (with_reducible (first | apply cd_split | apply gd_split)) <;> (intro hc; (try simp only [hcn] at hc); (try simp only [hc]); (try simp only [hcl] at hc); try omega))
  subst hQ
  rfl
theorem stable_ok {h : H} {v : V} (rb : Rw h v L) (hn : L.length < 40) (hf : B.val h.floor ≤ B.val h.next) : FnOk Try.prog 51 [v, .i .i64 (L.length : Int), .f 40 []] h fun y h' =>
    ∃ q, (∀ x, (∃ k, k < L.length ∧ q k = x) ↔ x < L.length) ∧ Srt L q 0 L.length ∧ Rw h' v (rwK L q L.length) ∧ Stay (isOf v) h h' := by
  have rid : Rw h v (rwK L (fun i => i) L.length) := by rw [rwK_id]; exact rb
  have hmem : ∀ q, Per (fun i => i) q 0 L.length → ∀ x, (∃ k, k < L.length ∧ q k = x) ↔ x < L.length := fun q hp x => by
    constructor
    · rintro ⟨k, h1, h2⟩
      obtain ⟨j, j1, j2, j3⟩ := (hp.mem x).1 ⟨k, Nat.zero_le _, h1, h2⟩
      have j3 : j = x := j3
      omega
    · intro hx
      obtain ⟨k, k1, k2, k3⟩ := (hp.mem x).2 ⟨x, Nat.zero_le _, hx, rfl⟩
      exact ⟨k, k2, k3⟩
  refine fn_go c51 (by intro hb; cases hb) (by simp) (by simp) fun Q hQ => ?_
  simp only [slotsF, Nat.reduceAdd]
  repeat' (first
    | refine St.h ?_
    | simp (disch := first | omega | (simp only [lnv]; omega)) only [wlk, ↓get_put', ↓reduceIte, seval]
    | (with_reducible (first | apply cd_split | apply gd_split)) <;> (intro hc; (try simp only [hcn] at hc); (try simp only [hc]); (try simp only [hcl] at hc); try omega))
  -- behind the first loop: a is 0 or 20
  refine Ok.lp (fun m t g => ∃ (a : Nat) (q : Nat → Nat), ((m = 1 ∧ a = 0) ∨ (m = 0 ∧ a = 20 ∧ 20 ≤ L.length)) ∧ get 0 t = v ∧ get 1 t = .i .i64 (L.length : Int) ∧ get 2 t = .f 40 [] ∧ get 6 t = .i .i64 20 ∧ get 7 t = .i .i64 (a : Int) ∧ get 8 t = .i .i64 ((a + 20 : Nat) : Int) ∧ Per (fun i => i) q 0 a ∧ Srt L q 0 a ∧ Rw g v (rwK L q L.length) ∧ Stay (isOf v) h g) 1 ?_ ?_
  · simp (disch := first | omega | (simp only [lnv]; omega)) only [wlk, ↓get_put', ↓reduceIte, seval]
    refine ⟨0, fun i => i, .inl (by simp), ?_⟩
    refine ⟨?_, ?_, ?_, ?_, ?_, ?_, Per.refl, fun i j h1 h2 h3 => by omega, rid, ⟨rfl, Nat.le_refl _, fun _ _ _ => rfl⟩⟩
    all_goals first | trivial | rfl
  rintro I hI m t g ⟨a, q, hma, f0, f1, f2, f6, f7, f8, hp, hs, rb1, st⟩
  have hfg := st.fl hf
  by_cases hle : a + 20 ≤ L.length
  case pos =>
    obtain ⟨rfl, rfl⟩ : m = 1 ∧ a = 0 := by omega
    have d1 : (((0 + 20 : Nat) : Int) ≤ (L.length : Int)) = True := eq_true (by omega)
    repeat' (first
      | refine St.h ?_
      | simp (disch := first | omega | (simp only [lnv]; omega)) only [wlk, ↓get_put', ↓reduceIte, seval, f0, f1, f2, f6, f7, f8, d1]
      | (with_reducible (first | apply cd_split | apply gd_split)) <;> (intro hc; (try simp only [hcn] at hc); (try simp only [hc]); (try simp only [hcl] at hc); try omega))
    refine CL.mk (isortW_ok (L := L) (N := L.length) (p := q) (a := 0) (b := 20) rb1 (by omega) (by omega) (by omega) (fun k _ _ => hp.out k (.inr (Nat.zero_le _))) hfg) ?_
    rintro y g1 ⟨q1, P1, S1, R1, s1⟩
    repeat' (first
      | refine St.h ?_
      | simp (disch := first | omega | (simp only [lnv]; omega)) only [wlk, ↓get_put', ↓reduceIte, seval, f0, f1, f2, f6, f7, f8]
      | (with_reducible (first | apply cd_split | apply gd_split)) <;> (intro hc; (try simp only [hcn] at hc); (try simp only [hc]); (try simp only [hcl] at hc); try omega))
    refine lp_next hI 0 (by omega) ⟨20, q1, .inr ⟨rfl, rfl, by omega⟩, by simp (disch := first | omega | (simp only [lnv]; omega)) only [wlk, ↓get_put', ↓reduceIte, seval, f0], by simp (disch := first | omega | (simp only [lnv]; omega)) only [wlk, ↓get_put', ↓reduceIte, seval, f1], by simp (disch := first | omega | (simp only [lnv]; omega)) only [wlk, ↓get_put', ↓reduceIte, seval, f2], by simp (disch := first | omega | (simp only [lnv]; omega)) only [wlk, ↓get_put', ↓reduceIte, seval, f6], by simp (disch := first | omega | (simp only [lnv]; omega)) only [wlk, ↓get_put', ↓reduceIte, seval, f8], by simp (disch := first | omega | (simp only [lnv]; omega)) only [wlk, ↓get_put', ↓reduceIte, seval, f8], (hp.wide (Nat.le_refl _) (by omega)).trans P1, S1, R1, st.trans s1⟩
  have ha : a ≤ L.length ∧ L.length < a + 20 := by omega
  have d1 : (((a + 20 : Nat) : Int) ≤ (L.length : Int)) = False := eq_false (by omega)
  repeat' (first
    | refine St.h ?_
    | simp (disch := first | omega | (simp only [lnv]; omega)) only [wlk, ↓get_put', ↓reduceIte, seval, f0, f1, f2, f6, f7, f8, d1]
    | (with_reducible (first | apply cd_split | apply gd_split)) <;> (intro hc; (try simp only [hcn] at hc); (try simp only [hc]); (try simp only [hcl] at hc); try omega))
  refine CL.mk (isortW_ok (L := L) (N := L.length) (p := q) (a := a) (b := L.length) rb1 (by omega) ha.1 (Nat.le_refl _) (fun k hk _ => hp.out k (.inr hk)) hfg) ?_
  rintro y g1 ⟨q1, P1, S1, R1, s1⟩
  have hf1 := s1.fl hfg
  have st1 := st.trans s1
  have Pt : Per (fun i => i) q1 0 L.length := (hp.wide (Nat.le_refl _) ha.1).trans (P1.wide (Nat.zero_le _) (Nat.le_refl _))
  repeat' (first
    | refine St.h ?_
    | simp (disch := first | omega | (simp only [lnv]; omega)) only [wlk, ↓get_put', ↓reduceIte, seval, f0, f1, f2, f6, f7, f8]
    | (with_reducible (first | apply cd_split | apply gd_split)) <;> (intro hc; (try simp only [hcn] at hc); (try simp only [hc]); (try simp only [hcl] at hc); try omega))
  -- the second loop merges once, if at all
  refine Ok.lp (fun m t g => ∃ (s : Nat) (q : Nat → Nat), ((m = 1 ∧ s = 20 ∧ q = q1) ∨ (m = 0 ∧ s = 40 ∧ 20 < L.length ∧ Per q1 q 0 L.length ∧ Srt L q 0 L.length)) ∧ get 0 t = v ∧ get 1 t = .i .i64 (L.length : Int) ∧ get 2 t = .f 40 [] ∧ get 6 t = .i .i64 (s : Int) ∧ Rw g v (rwK L q L.length) ∧ Stay (isOf v) h g) 1 ?_ ?_
  · simp (disch := first | omega | (simp only [lnv]; omega)) only [wlk, ↓get_put', ↓reduceIte, seval, f0, f1, f2, f6]
    refine ⟨20, q1, .inl (by simp), ?_⟩
    refine ⟨?_, ?_, ?_, ?_, R1, st1⟩
    all_goals first | trivial | rfl
  rintro I2 hI2 m2 t2 g2 ⟨s, q2, hms, e0, e1, e2, e6, R2, st2⟩
  have hf2 := st2.fl hf
  by_cases hlt : s < L.length
  case neg =>
    have d1 : ((s : Int) < (L.length : Int)) = False := eq_false (by omega)
    repeat' (first
      | refine St.h ?_
      | simp (disch := first | omega | (simp only [lnv]; omega)) only [wlk, ↓get_put', ↓reduceIte, seval, e0, e1, e2, e6, d1]
      | (with_reducible (first | apply cd_split | apply gd_split)) <;> (intro hc; (try simp only [hcn] at hc); (try simp only [hc]); (try simp only [hcl] at hc); try omega))
    subst hQ
    rcases hms with ⟨_, rfl, rfl⟩ | ⟨_, _, _, P2, S2⟩
    · refine ⟨q2, hmem _ Pt, ?_, R2, st2⟩
      by_cases h0 : a = 0
      · subst h0; exact S1
      · obtain rfl : a = 20 := by omega
        intro i j h1 h2 h3
        have := srt_out hs fun k k1 k2 => P1.out k (.inl k2)
        exact this i j h1 h2 (by omega)
    · exact ⟨q2, hmem _ (Pt.trans P2), S2, R2, st2⟩
  obtain ⟨rfl, rfl, rfl⟩ : m2 = 1 ∧ s = 20 ∧ q2 = q1 := by
    rcases hms with h | h
    · exact h
    · omega
  obtain rfl : a = 20 := by omega
  have d1 : (((20 : Nat) : Int) < (L.length : Int)) = True := eq_true (by omega)
  repeat' (first
    | refine St.h ?_
    | simp (disch := first | omega | (simp only [lnv]; omega)) only [wlk, ↓get_put', ↓reduceIte, seval, e0, e1, e2, e6, d1]
    | (with_reducible (first | apply cd_split | apply gd_split)) <;> (intro hc; (try simp only [hcn] at hc); (try simp only [hc]); (try simp only [hcl] at hc); try omega))
  refine Ok.lp (fun m t g => m = 0 ∧ g2 = g ∧ get 0 t = v ∧ get 1 t = .i .i64 (L.length : Int) ∧ get 2 t = .f 40 [] ∧ get 6 t = .i .i64 20 ∧ get 7 t = .i .i64 0 ∧ get 8 t = .i .i64 40) 0 ?_ ?_
  · simp (disch := first | omega | (simp only [lnv]; omega)) only [wlk, ↓get_put', ↓reduceIte, seval, e0, e1, e2, e6]
    repeat' (first | trivial | rfl | refine And.intro ?_ ?_)
  rintro I3 hI3 m3 t3 g3 ⟨rfl, rfl, f0, f1, f2, f6, f7, f8⟩
  have d2 : ((40 : Int) ≤ (L.length : Int)) = False := eq_false (by omega)
  have d3 : ((20 : Int) < (L.length : Int)) = True := eq_true (by omega)
  repeat' (first
    | refine St.h ?_
    | simp (disch := first | omega | (simp only [lnv]; omega)) only [wlk, ↓get_put', ↓reduceIte, seval, f0, f1, f2, f6, f7, f8, d2, d3]
    | (with_reducible (first | apply cd_split | apply gd_split)) <;> (intro hc; (try simp only [hcn] at hc); (try simp only [hc]); (try simp only [hcl] at hc); try omega))
  have hsm := sm_all (L := L) (N := L.length) (by omega) (L.length + 1) (h := g2) (v := v) (p := q2) (a := 0) (m := 20) (b := L.length) (by omega) R2 (by omega) (by omega) (Nat.le_refl _) (srt_out hs fun k k1 k2 => P1.out k (.inl k2)) S1 (fun i j i1 i2 i3 i4 _ => by
    have h5 : q2 i < 20 := by
      obtain ⟨k, k1, k2, k3⟩ := (hp.mem (q i)).1 ⟨i, i1, i2, rfl⟩
      have k3 : k = q i := k3
      rw [P1.out i (.inl i2)]; omega
    have h6 : 20 ≤ q2 j := by
      obtain ⟨k, k1, k2, k3⟩ := (P1.mem (q2 j)).1 ⟨j, i3, i4, rfl⟩
      rw [hp.out k (.inr k1)] at k3
      have k3 : k = q2 j := k3
      omega
    omega) hf2
  refine CL.mk hsm ?_
  rintro y g4 ⟨q4, P4, S4, R4, s4⟩
  repeat' (first
    | refine St.h ?_
    | simp (disch := first | omega | (simp only [lnv]; omega)) only [wlk, ↓get_put', ↓reduceIte, seval, f0, f1, f2, f6, f7, f8]
    | (with_reducible (first | apply cd_split | apply gd_split)) <;> (intro hc; (try simp only [hcn] at hc); (try simp only [hc]); (try simp only [hcl] at hc); try omega))
  refine lp_next hI2 0 (by omega) ⟨40, q4, .inr ⟨rfl, rfl, by omega, P4, S4⟩, by simp (disch := first | omega | (simp only [lnv]; omega)) only [wlk, ↓get_put', ↓reduceIte, seval, f0], by simp (disch := first | omega | (simp only [lnv]; omega)) only [wlk, ↓get_put', ↓reduceIte, seval, f1], by simp (disch := first | omega | (simp only [lnv]; omega)) only [wlk, ↓get_put', ↓reduceIte, seval, f2], by simp (disch := first | omega | (simp only [lnv]; omega)) only [wlk, ↓get_put', ↓reduceIte, seval, f6], R4, st2.trans s4⟩
theorem sort12_ok {h h0 : H} {v : V} (hc : ClW h0 h v L) (hn : L.length < 40) (hf : B.val h.floor ≤ B.val h.next) (hn0 : B.val h0.next ≤ B.val h.next) : FnOk Try.prog 39 [v, .f 40 []] h fun y h' =>
    ∃ M, kpK M M.length = neatB L ∧ M.length = L.length ∧ Ws h' v M ∧ Stay (fun q => B.val h0.next ≤ B.val q) h h' := by
  refine fn_go c39 (by intro hb; cases hb) (by simp) (by simp) fun Q hQ => ?_
  simp only [slotsF, Nat.reduceAdd]
  rcases hc with ⟨rfl, hw, hsw⟩ | ⟨hne, rb, hsw, own⟩
  · repeat' (first
      | refine St.h ?_
      | simp (disch := first | omega | (simp only [lnv]; omega)) only [wlk, ↓get_put', ↓reduceIte, seval, hw.ln]
      | (with_reducible (first | apply cd_split | apply gd_split)) <;> (intro hc; (try simp only [hcn] at hc); (try simp only [hc]); (try simp only [hcl] at hc); try omega))
    refine CL.mk stable0_ok ?_
    rintro y g1 rfl
    repeat' (first
      | refine St.h ?_
      | simp (disch := first | omega | (simp only [lnv]; omega)) only [wlk, ↓get_put', ↓reduceIte, seval]
      | (with_reducible (first | apply cd_split | apply gd_split)) <;> (intro hc; (try simp only [hcn] at hc); (try simp only [hc]); (try simp only [hcl] at hc); try omega))
    subst hQ
    exact ⟨[], rfl, rfl, hw, ⟨rfl, Nat.le_refl _, fun _ _ _ => rfl⟩⟩
  · have hw := rb.ws
    repeat' (first
      | refine St.h ?_
      | simp (disch := first | omega | (simp only [lnv]; omega)) only [wlk, ↓get_put', ↓reduceIte, seval, hw.ln]
      | (with_reducible (first | apply cd_split | apply gd_split)) <;> (intro hc; (try simp only [hcn] at hc); (try simp only [hc]); (try simp only [hcl] at hc); try omega))
    refine CL.mk (stable_ok rb hn hf) ?_
    rintro y g1 ⟨q, q1, q2, q3, q4⟩
    repeat' (first
      | refine St.h ?_
      | simp (disch := first | omega | (simp only [lnv]; omega)) only [wlk, ↓get_put', ↓reduceIte, seval]
      | (with_reducible (first | apply cd_split | apply gd_split)) <;> (intro hc; (try simp only [hcn] at hc); (try simp only [hc]); (try simp only [hcl] at hc); try omega))
    subst hQ
    refine ⟨_, ?_, rwK_len, q3.ws, q4.mono fun id _ hi => own id hi⟩
    rw [rwK_len]; exact kpK_neat q1 q2
theorem bneat_ok {h : H} {v : V} {L : List Wri} (hL : Ws h v L) (hw : SwN 3 v) (hl : L.length < 40) (hk : ∀ w ∈ L, w.key.length ≤ 100000) (hf : B.val h.floor ≤ B.val h.next) : FnOk Try.prog 18 [v] h fun y h' => Ws h' y (neatB L) ∧ SwN 3 y ∧ Stay nowhere h h' := by
  refine fn_go c18 (by intro hb; cases hb) (by simp) (by simp) fun Q hQ => ?_
  simp only [slotsF, Nat.reduceAdd]
  repeat' (first
    | refine St.h ?_
    | simp (disch := first | omega | (simp only [lnv]; omega)) only [wlk, ↓get_put', ↓reduceIte, seval]
    | (with_reducible (first | apply cd_split | apply gd_split)) <;> (intro hc; (try simp only [hcn] at hc); (try simp only [hc]); (try simp only [hcl] at hc); try omega))
  refine CL.mk (cloneW_ok hL (by omega) hf) ?_
  rintro v2 h1 ⟨hc, s1⟩
  have hf1 := s1.fl hf
  repeat' (first
    | refine St.h ?_
    | simp (disch := first | omega | (simp only [lnv]; omega)) only [wlk, ↓get_put', ↓reduceIte, seval]
    | (with_reducible (first | apply cd_split | apply gd_split)) <;> (intro hc; (try simp only [hcn] at hc); (try simp only [hc]); (try simp only [hcl] at hc); try omega))
  refine CL.mk (sort12_ok hc hl hf1 s1.next) ?_
  rintro y h2 ⟨M, hM, hMl, wM, s2⟩
  have st2 : Stay nowhere h h2 := s1.past' s2 fun id hi => hi
  have hf2 := st2.fl hf
  repeat' (first
    | refine St.h ?_
    | simp (disch := first | omega | (simp only [lnv]; omega)) only [wlk, ↓get_put', ↓reduceIte, seval, wM.ln]
    | (with_reducible (first | apply cd_split | apply gd_split)) <;> (intro hc; (try simp only [hcn] at hc); (try simp only [hc]); (try simp only [hcl] at hc); try omega))
  refine Ok.lp (fun m t g => ∃ (i : Nat) (u : V), m = M.length - i ∧ i ≤ M.length ∧ get 3 t = v2 ∧ get 4 t = u ∧ get 11 t = v2 ∧ get 12 t = .i .i64 (M.length : Int) ∧ get 13 t = .i .i64 (i : Int) ∧ Buf g 49 3 u ((kpK M i).flatMap wriC) ∧ (∀ q, isOf u q → B.val h2.next ≤ B.val q) ∧ Stay nowhere h2 g) M.length ?_ ?_
  · simp (disch := first | omega | (simp only [lnv]; omega)) only [wlk, ↓get_put', ↓reduceIte, seval]
    refine ⟨0, .l0, by omega, by omega, ?_⟩
    refine ⟨?_, ?_, ?_, ?_, ?_, .inl ⟨rfl, rfl⟩, ?_, Stay.refl _ _⟩
    rotate_right
    · rintro i ⟨_, _, _, _, _, e⟩; cases e
    all_goals first | trivial | rfl
  rintro I hI m t g ⟨i, u, rfl, hi, f3, f4, f11, f12, f13, bu, own, st⟩
  have hfg := st.fl hf2
  have Mg := wM.grow st
  by_cases hil : i < M.length
  case neg =>
    obtain rfl : i = M.length := by omega
    have d1 : ((M.length : Int) < (M.length : Int)) = False := eq_false (by omega)
    repeat' (first
      | refine St.h ?_
      | simp (disch := first | omega | (simp only [lnv]; omega)) only [wlk, ↓get_put', ↓reduceIte, seval, f3, f4, f11, f12, f13, d1]
      | (with_reducible (first | apply cd_split | apply gd_split)) <;> (intro hc; (try simp only [hcn] at hc); (try simp only [hc]); (try simp only [hcl] at hc); try omega))
    subst hQ
    rw [hM] at bu
    exact ⟨Ss.buf bu rfl wriC_len (by omega), swn_buf12 bu, st2.trans st⟩
  have d1 : ((i : Int) < (M.length : Int)) = True := eq_true (by omega)
  repeat' (first
    | refine St.h ?_
    | simp (disch := first | omega | (simp only [lnv]; omega)) only [wlk, ↓get_put', ↓reduceIte, seval, f3, f4, f11, f12, f13, d1, Mg.ix, Mg.la, Int.toNat_natCast]
    | (with_reducible (first | apply cd_split | apply gd_split)) <;> (intro hc; (try simp only [hcn] at hc); (try simp only [hc]); (try simp only [hcl] at hc); try omega))
  refine AL.own (by simp) hfg fun g1 t1 _ o1 => ?_
  have hf1 := t1.fl hfg
  repeat' (first
    | refine St.h ?_
    | simp (disch := first | omega | (simp only [lnv]; omega)) only [wlk, ↓get_put', ↓reduceIte, seval, f3, f4, f11, f12, f13]
    | (with_reducible (first | apply cd_split | apply gd_split)) <;> (intro hc; (try simp only [hcn] at hc); (try simp only [hc]); (try simp only [hcl] at hc); try omega))
  refine ST.all o1 rfl rfl (by simp) (by simp) fun g2 o2 t2 => ?_
  have hf2' := t2.fl hf1
  have tt : Stay nowhere g g2 := t1.past' t2 fun q hq => by rw [hq]; exact Nat.le_refl _
  have M2 := Mg.grow tt
  have b2 := bu.grow tt
  have r2 := o2.row
  have hkl := kpK_len M i
  have e1 : ((i : Int) + 1).toNat = i + 1 := by omega
  have go : lasK M i → ∀ t3 : F, get 3 t3 = v2 → get 11 t3 = v2 → get 12 t3 = .i .i64 (M.length : Int) → get 13 t3 = .i .i64 ((i + 1 : Nat) : Int) → ∀ u3 g3, get 4 t3 = u3 → Buf g3 49 3 u3 ((kpK M i ++ [M.getD i default]).flatMap wriC) → (∀ q, isOf u3 q → B.val h2.next ≤ B.val q) → Stay nowhere h2 g3 → LpG I (M.length - i) t3 g3 := fun hk t3 x3 x11 x12 x13 u3 g3 x4 xb xo xs =>
    lp_next hI (M.length - (i + 1)) (by omega) ⟨i + 1, u3, rfl, by omega, x3, x4, x11, x12, x13, by unfold kpK; rw [if_pos hk]; exact xb, xo, xs⟩
  by_cases c1 : i + 1 = M.length
  · have d2 : ((i : Int) + 1 = (M.length : Int)) = True := eq_true (by omega)
    repeat' (first
      | refine St.h ?_
      | simp (disch := first | omega | (simp only [lnv]; omega)) only [wlk, ↓get_put', ↓reduceIte, seval, f3, f4, f11, f12, f13, d2, M2.ln, r2.l1, r2.ln]
      | (with_reducible (first | apply cd_split | apply gd_split)) <;> (intro hc; (try simp only [hcn] at hc); (try simp only [hc]); (try simp only [hcl] at hc); try omega))
    refine AL.own (by simp) hf2' fun g3 t3 _ o3 => ?_
    repeat' (first
      | refine St.h ?_
      | simp (disch := first | omega | (simp only [lnv]; omega)) only [wlk, ↓get_put', ↓reduceIte, seval, f3, f4, f11, f12, f13]
      | (with_reducible (first | apply cd_split | apply gd_split)) <;> (intro hc; (try simp only [hcn] at hc); (try simp only [hc]); (try simp only [hcl] at hc); try omega))
    refine push_w (x := M.getD i default) (b2.grow t3) o3 (by omega) (t3.fl hf2') fun u4 g4 b4 t4 own4 => ?_
    repeat' (first
      | refine St.h ?_
      | simp (disch := first | omega | (simp only [lnv]; omega)) only [wlk, ↓get_put', ↓reduceIte, seval, f3, f4, f11, f12, f13]
      | (with_reducible (first | apply cd_split | apply gd_split)) <;> (intro hc; (try simp only [hcn] at hc); (try simp only [hc]); (try simp only [hcl] at hc); try omega))
    refine go (.inl c1) _ (by simp (disch := first | omega | (simp only [lnv]; omega)) only [wlk, ↓get_put', ↓reduceIte, seval, f3]) (by simp (disch := first | omega | (simp only [lnv]; omega)) only [wlk, ↓get_put', ↓reduceIte, seval, f11]) (by simp (disch := first | omega | (simp only [lnv]; omega)) only [wlk, ↓get_put', ↓reduceIte, seval, f12]) (by simp (disch := first | omega | (simp only [lnv]; omega)) only [wlk, ↓get_put', ↓reduceIte, seval, f13]; rfl) u4 _ (by simp (disch := first | omega | (simp only [lnv]; omega)) only [wlk, ↓get_put', ↓reduceIte, seval]) b4 (fun q hq => ?_) ((st.trans (tt.trans t3)).past' t4 fun q hq => own q hq)
    rcases own4 q hq with h5 | h5
    · exact own q h5
    · exact Nat.le_trans (st.trans (tt.trans t3)).next h5
  have d2 : ((i : Int) + 1 = (M.length : Int)) = False := eq_false (by omega)
  by_cases c2 : (M.getD (i + 1) default).key = (M.getD i default).key
  · repeat' (first
      | refine St.h ?_
      | simp (disch := first | omega | (simp only [lnv]; omega)) only [wlk, ↓get_put', ↓reduceIte, seval, f3, f4, f11, f12, f13, d2, M2.ln, M2.ix, M2.l0, r2.l1, r2.ln, e1, c2]
      | (with_reducible (first | apply cd_split | apply gd_split)) <;> (intro hc; (try simp only [hcn] at hc); (try simp only [hc]); (try simp only [hcl] at hc); try omega))
    have hk : ¬ lasK M i := fun h5 => by
      rcases h5 with h5 | h5
      · exact c1 h5
      · exact h5 c2
    exact lp_next hI (M.length - (i + 1)) (by omega) ⟨i + 1, u, rfl, by omega, by simp (disch := first | omega | (simp only [lnv]; omega)) only [wlk, ↓get_put', ↓reduceIte, seval, f3], by simp (disch := first | omega | (simp only [lnv]; omega)) only [wlk, ↓get_put', ↓reduceIte, seval, f4], by simp (disch := first | omega | (simp only [lnv]; omega)) only [wlk, ↓get_put', ↓reduceIte, seval, f11], by simp (disch := first | omega | (simp only [lnv]; omega)) only [wlk, ↓get_put', ↓reduceIte, seval, f12], by simp (disch := first | omega | (simp only [lnv]; omega)) only [wlk, ↓get_put', ↓reduceIte, seval, f13]; rfl, by unfold kpK; rw [if_neg hk]; exact b2, own, st.trans tt⟩
  · have d3 : ((M.getD (i + 1) default).key = (M.getD i default).key) = False := eq_false c2
    repeat' (first
      | refine St.h ?_
      | simp (disch := first | omega | (simp only [lnv]; omega)) only [wlk, ↓get_put', ↓reduceIte, seval, f3, f4, f11, f12, f13, d2, M2.ln, M2.ix, M2.l0, r2.l1, r2.ln, e1, d3]
      | (with_reducible (first | apply cd_split | apply gd_split)) <;> (intro hc; (try simp only [hcn] at hc); (try simp only [hc]); (try simp only [hcl] at hc); try omega))
    refine AL.own (by simp) hf2' fun g3 t3 _ o3 => ?_
    repeat' (first
      | refine St.h ?_
      | simp (disch := first | omega | (simp only [lnv]; omega)) only [wlk, ↓get_put', ↓reduceIte, seval, f3, f4, f11, f12, f13]
      | (with_reducible (first | apply cd_split | apply gd_split)) <;> (intro hc; (try simp only [hcn] at hc); (try simp only [hc]); (try simp only [hcl] at hc); try omega))
    refine push_w (x := M.getD i default) (b2.grow t3) o3 (by omega) (t3.fl hf2') fun u4 g4 b4 t4 own4 => ?_
    repeat' (first
      | refine St.h ?_
      | simp (disch := first | omega | (simp only [lnv]; omega)) only [wlk, ↓get_put', ↓reduceIte, seval, f3, f4, f11, f12, f13]
      | (with_reducible (first | apply cd_split | apply gd_split)) <;> (intro hc; (try simp only [hcn] at hc); (try simp only [hc]); (try simp only [hcl] at hc); try omega))
    refine go (.inr c2) _ (by simp (disch := first | omega | (simp only [lnv]; omega)) only [wlk, ↓get_put', ↓reduceIte, seval, f3]) (by simp (disch := first | omega | (simp only [lnv]; omega)) only [wlk, ↓get_put', ↓reduceIte, seval, f11]) (by simp (disch := first | omega | (simp only [lnv]; omega)) only [wlk, ↓get_put', ↓reduceIte, seval, f12]) (by simp (disch := first | omega | (simp only [lnv]; omega)) only [wlk, ↓get_put', ↓reduceIte, seval, f13]; rfl) u4 _ (by simp (disch := first | omega | (simp only [lnv]; omega)) only [wlk, ↓get_put', ↓reduceIte, seval]) b4 (fun q hq => ?_) ((st.trans (tt.trans t3)).past' t4 fun q hq => own q hq)
    rcases own4 q hq with h5 | h5
    · exact own q h5
    · exact Nat.le_trans (st.trans (tt.trans t3)).next h5
end
end Go.Proofs.Ythncpgkpkdolfaa

set_option linter.all false
namespace Go.Proofs.Ythncpgkpkdolfaa
open Go Go.Ev
theorem isB_all {L : List Wri} (h : isB L = true) : ∀ w ∈ L, isR w = true := fun w hw => by
  obtain ⟨i, hi, rfl⟩ := List.getElem_of_mem hw
  have := upA_is (isB_up h hi)
  rwa [show L.getD i default = L[i] by simp [List.getD, hi]] at this
theorem takeWs_rows : ∀ {L : List Wri} (more : List UInt8), (∀ w ∈ L, isR w = true) → takeWs L.length (L.flatMap oneB ++ more) = some (L, more)
  | [], _, _ => rfl
  | w :: L, more, h => by
    have hr := isR_len (h w (by simp))
    have ih := takeWs_rows (L := L) more fun x hx => h x (List.mem_cons_of_mem _ hx)
    have e1 : (w :: L).flatMap oneB ++ more = textB w.key ++ ((if w.del then [1] else 0 :: textB w.val) ++ (L.flatMap oneB ++ more)) := by
      rw [List.flatMap_cons]; unfold oneB; simp
    have hk : takeT (textB w.key ++ ((if w.del then [1] else 0 :: textB w.val) ++ (L.flatMap oneB ++ more))) = (w.key, ((textB w.key).length : Int), 0) := takeT_textB (by omega)
    rw [e1, List.length_cons]
    unfold takeWs
    rw [hk]
    have en : ((textB w.key).length : Int).toNat = (textB w.key).length := by omega
    have hd1 : ∀ X : List UInt8, (textB w.key ++ X).drop ((textB w.key).length + 1) = X.drop 1 := fun X => by
      rw [← List.drop_drop, List.drop_left]
    have hg : ∀ (c : UInt8) (X : List UInt8), (textB w.key ++ c :: X).getD (textB w.key).length 0 = c := fun c X => by simp [List.getD]
    cases hdel : w.del with
    | true =>
      have hv := hr.2.2.2 hdel
      show (if (0 : Int) ≠ 0 ∨ ((textB w.key).length : Int) = (((textB w.key ++ ([1] ++ (L.flatMap oneB ++ more))).length : Nat) : Int) then none else _) = _
      rw [if_neg (by rw [List.length_append]; simp; omega), en]
      show (if (textB w.key ++ 1 :: (L.flatMap oneB ++ more)).getD (textB w.key).length 0 = 1 then _ else _) = _
      rw [hg, if_pos rfl]
      show Option.map _ (takeWs L.length ((textB w.key ++ 1 :: (L.flatMap oneB ++ more)).drop ((textB w.key).length + 1))) = _
      rw [hd1]
      show Option.map _ (takeWs L.length (L.flatMap oneB ++ more)) = _
      rw [ih]
      show some ((⟨w.key, true, []⟩ : Wri) :: L, more) = _
      rw [← hdel, ← hv]
    | false =>
      show (if (0 : Int) ≠ 0 ∨ ((textB w.key).length : Int) = (((textB w.key ++ (0 :: textB w.val ++ (L.flatMap oneB ++ more))).length : Nat) : Int) then none else _) = _
      rw [if_neg (by rw [List.length_append]; simp; omega), en]
      show (if (textB w.key ++ 0 :: (textB w.val ++ (L.flatMap oneB ++ more))).getD (textB w.key).length 0 = 1 then _ else _) = _
      rw [hg, if_neg (by decide)]
      have ev : (textB w.key ++ 0 :: (textB w.val ++ (L.flatMap oneB ++ more))).drop ((textB w.key).length + 1) = textB w.val ++ (L.flatMap oneB ++ more) := by rw [hd1]; rfl
      show (if (takeT ((textB w.key ++ 0 :: (textB w.val ++ (L.flatMap oneB ++ more))).drop ((textB w.key).length + 1))).2.2 ≠ 0 then none else Option.map (fun r => ((⟨w.key, false, (takeT ((textB w.key ++ 0 :: (textB w.val ++ (L.flatMap oneB ++ more))).drop ((textB w.key).length + 1))).1⟩ : Wri) :: r.1, r.2)) (takeWs L.length (((textB w.key ++ 0 :: (textB w.val ++ (L.flatMap oneB ++ more))).drop ((textB w.key).length + 1)).drop (takeT ((textB w.key ++ 0 :: (textB w.val ++ (L.flatMap oneB ++ more))).drop ((textB w.key).length + 1))).2.1.toNat))) = _
      rw [ev, takeT_textB (by omega)]
      show (if (0 : Int) ≠ 0 then none else Option.map _ (takeWs L.length ((textB w.val ++ (L.flatMap oneB ++ more)).drop ((textB w.val).length : Int).toNat))) = _
      rw [if_neg (by omega), show ((textB w.val).length : Int).toNat = (textB w.val).length by omega, List.drop_left, ih]
      show some ((⟨w.key, false, w.val⟩ : Wri) :: L, more) = _
      rw [← hdel]
theorem okB12_iff {q : Int} {L : List Wri} : okB12 q L = true ↔ isB L = true ∧ 1 ≤ q ∧ q ≤ 1000000 := by
  unfold okB12; rw [Bool.and_eq_true, decide_eq_true_eq]
theorem readR_bat {q : Nat} {L : List Wri} (h : okB12 q L = true) (more : List UInt8) : readR (batB q L ++ more) = ((q : Int), L, ((batB q L).length : Int), 0) := by
  obtain ⟨hB, h1, h2⟩ := okB12_iff.1 h
  have hrl := rowsB_len hB
  have ln := numB_len (n := (q : Int).toNat) (by omega)
  have hl8 := isB_len hB
  have e : openB (batB q L ++ more) = (numB (q : Int).toNat ++ rowsB L, ((batB q L).length : Int), 0) := openB_seal (by rw [List.length_append]; omega)
  have eq1 : (q : Int).toNat = q := by omega
  have e1 : takeN (numB (q : Int).toNat ++ rowsB L) = ((q : Int), ((numB q).length : Int), 0) := by rw [eq1]; exact takeN_numB (by omega) _
  have ht : takeR ((numB (q : Int).toNat ++ rowsB L).drop (numB q).length) = some L := by
    rw [eq1, List.drop_left]
    unfold takeR rowsB
    rw [takeN_numB (by omega)]
    show (if (0 : Int) ≠ 0 ∨ (8 : Int) < (L.length : Int) then none else Option.map _ (takeWs (L.length : Int).toNat ((numB L.length ++ L.flatMap oneB).drop ((numB L.length).length : Int).toNat))) = _
    rw [if_neg (by omega), show (L.length : Int).toNat = L.length by omega, show ((numB L.length).length : Int).toNat = (numB L.length).length by omega, List.drop_left]
    have := takeWs_rows (L := L) [] (isB_all hB)
    rw [List.append_nil] at this
    rw [this]; rfl
  rw [readR_eq e e1, ht]
  show (if (bytB q L).2 = 0 ∧ (bytB q L).1 = (batB q L ++ more).take (batB q L).length then _ else _) = _
  have hb : bytB q L = (batB q L, 0) := by unfold bytB; rw [h]; rfl
  rw [hb, if_pos ⟨rfl, (List.take_left ..).symm⟩]
theorem logF_succ (k : Nat) (f : Bool) (z : Int) (s : List UInt8) : logF (k + 1) f z s = if s = [] ∨ (readR s).2.2.2 ≠ 0 ∨ (f = false ∧ (readR s).1 ≠ z + 1) then ([], z, 0)
    else (entB (readR s).1 (readR s).2.1 ++ (logF k false (readR s).1 (s.drop (readR s).2.2.1.toNat)).1, (logF k false (readR s).1 (s.drop (readR s).2.2.1.toNat)).2.1, (readR s).2.2.1.toNat + (logF k false (readR s).1 (s.drop (readR s).2.2.1.toNat)).2.2) := rfl
/-- nothing more is told -/
def stopL (f : Bool) (z : Int) (s : List UInt8) : Prop := s = [] ∨ (readR s).2.2.2 ≠ 0 ∨ (f = false ∧ (readR s).1 ≠ z + 1)
theorem logF_stop {f : Bool} {z : Int} {s : List UInt8} (h : stopL f z s) : ∀ k, logF k f z s = ([], z, 0)
  | 0 => rfl
  | k + 1 => by rw [logF_succ]; exact if_pos h
end Go.Proofs.Ythncpgkpkdolfaa

set_option linter.all false
namespace Go.Proofs.Ythncpgkpkdolfaa
open Go Go.Ev
/-- the write at the front -/
def tkP (s : List UInt8) : Option (Wri × Nat) :=
  if (takeT s).2.2 ≠ 0 ∨ (takeT s).2.1 = (s.length : Int) then none
  else if s.getD (takeT s).2.1.toNat 0 = 0 then
    (if (takeT (s.drop ((takeT s).2.1.toNat + 1))).2.2 ≠ 0 then none else some (⟨(takeT s).1, false, (takeT (s.drop ((takeT s).2.1.toNat + 1))).1⟩, (takeT s).2.1.toNat + 1 + (takeT (s.drop ((takeT s).2.1.toNat + 1))).2.1.toNat))
  else if s.getD (takeT s).2.1.toNat 0 = 1 then some (⟨(takeT s).1, true, []⟩, (takeT s).2.1.toNat + 1) else none
def tksP : Nat → List UInt8 → Option (List Wri)
  | 0, _ => some []
  | n + 1, s => (tkP s).bind fun r => (tksP n (s.drop r.2)).map (r.1 :: ·)
def taP (s : List UInt8) : Int × List Wri :=
  if (takeN s).2.2 ≠ 0 then (0, []) else
  let r := s.drop (takeN s).2.1.toNat
  if (takeN r).2.2 ≠ 0 ∨ 8 < (takeN r).1 then (0, []) else
  match tksP (takeN r).1.toNat (r.drop (takeN r).2.1.toNat) with
  | none => (0, [])
  | some l => ((takeN s).1, l)
theorem tksP_len : ∀ {n : Nat} {s : List UInt8} {l : List Wri}, tksP n s = some l → l.length = n
  | 0, s, l, h => by cases h; rfl
  | n + 1, s, l, h => by
    unfold tksP at h
    cases e : tkP s with
    | none => rw [e] at h; cases h
    | some r =>
      rw [e] at h
      have h : (tksP n (s.drop r.2)).map (r.1 :: ·) = some l := h
      cases e2 : tksP n (s.drop r.2) with
      | none => rw [e2] at h; cases h
      | some m =>
        rw [e2] at h; cases h
        simp [tksP_len e2]
theorem taP_len (s : List UInt8) : (taP s).2.length ≤ 8 := by
  unfold taP
  split
  · simp
  · show (if _ then _ else _ : Int × List Wri).2.length ≤ 8
    split
    · simp
    · rename_i hn
      split
      · simp
      · rename_i l e
        have := tksP_len e
        show l.length ≤ 8
        omega
theorem taP_int (s : List UInt8) : 0 ≤ (taP s).1 ∧ (taP s).1 ≤ 9223372036854775807 := by
  have h := takeN_range s
  have h3 : 0 ≤ (takeN s).1 ∧ (takeN s).1 ≤ 9223372036854775807 := by
    rcases h with (e | e) | ⟨n, k, e, hn, _⟩
    · rw [e]; simp
    · rw [e]; simp
    · rw [e]; show 0 ≤ (n : Int) ∧ (n : Int) ≤ _; omega
  unfold taP
  split
  · simp
  · show 0 ≤ (if _ then _ else _ : Int × List Wri).1 ∧ (if _ then _ else _ : Int × List Wri).1 ≤ _
    split
    · simp
    · split
      · simp
      · exact h3
theorem tkP_one {w : Wri} (h : isR w = true) (more : List UInt8) : tkP (oneB w ++ more) = some (w, (oneB w).length) := by
  have hr := isR_len h
  have hk : ∀ X, takeT (textB w.key ++ X) = (w.key, ((textB w.key).length : Int), 0) := fun X => takeT_textB (by omega)
  have en : ((textB w.key).length : Int).toNat = (textB w.key).length := by omega
  have hd1 : ∀ X : List UInt8, (textB w.key ++ X).drop ((textB w.key).length + 1) = X.drop 1 := fun X => by
    rw [← List.drop_drop, List.drop_left]
  have hg : ∀ (c : UInt8) (X : List UInt8), (textB w.key ++ c :: X).getD (textB w.key).length 0 = c := fun c X => by simp [List.getD]
  cases hdel : w.del with
  | true =>
    have hv := hr.2.2.2 hdel
    have e1 : oneB w = textB w.key ++ [1] := by unfold oneB; rw [hdel]; rfl
    have e2 : oneB w ++ more = textB w.key ++ 1 :: more := by rw [e1]; simp
    have e3 : (oneB w).length = (textB w.key).length + 1 := by rw [e1]; simp
    rw [e2, e3]
    unfold tkP
    rw [hk, en]
    show (if (0 : Int) ≠ 0 ∨ ((textB w.key).length : Int) = (((textB w.key ++ 1 :: more).length : Nat) : Int) then none else _) = _
    rw [if_neg (by rw [List.length_append]; simp; omega), hg, if_neg (by decide), if_pos rfl]
    show some ((⟨w.key, true, []⟩ : Wri), _) = _
    rw [← hdel, ← hv]
  | false =>
    have e1 : oneB w = textB w.key ++ 0 :: textB w.val := by unfold oneB; rw [hdel]; rfl
    have e2 : oneB w ++ more = textB w.key ++ 0 :: (textB w.val ++ more) := by rw [e1]; simp
    have e3 : (oneB w).length = (textB w.key).length + 1 + (textB w.val).length := by rw [e1]; simp; omega
    have ev : (textB w.key ++ 0 :: (textB w.val ++ more)).drop ((textB w.key).length + 1) = textB w.val ++ more := by rw [hd1]; rfl
    rw [e2, e3]
    unfold tkP
    rw [hk, en]
    show (if (0 : Int) ≠ 0 ∨ ((textB w.key).length : Int) = (((textB w.key ++ 0 :: (textB w.val ++ more)).length : Nat) : Int) then none else _) = _
    rw [if_neg (by rw [List.length_append]; simp; omega), hg, if_pos rfl]
    show (if (takeT ((textB w.key ++ 0 :: (textB w.val ++ more)).drop ((textB w.key).length + 1))).2.2 ≠ 0 then none else some ((⟨w.key, false, (takeT ((textB w.key ++ 0 :: (textB w.val ++ more)).drop ((textB w.key).length + 1))).1⟩ : Wri), (textB w.key).length + 1 + (takeT ((textB w.key ++ 0 :: (textB w.val ++ more)).drop ((textB w.key).length + 1))).2.1.toNat)) = _
    rw [ev, takeT_textB (by omega)]
    show (if (0 : Int) ≠ 0 then none else some ((⟨w.key, false, w.val⟩ : Wri), (textB w.key).length + 1 + ((textB w.val).length : Int).toNat)) = _
    rw [if_neg (by omega), show ((textB w.val).length : Int).toNat = (textB w.val).length by omega, ← hdel]
theorem tksP_rows : ∀ {L : List Wri} (more : List UInt8), (∀ w ∈ L, isR w = true) → tksP L.length (L.flatMap oneB ++ more) = some L
  | [], _, _ => rfl
  | w :: L, more, h => by
    have ih := tksP_rows (L := L) more fun x hx => h x (List.mem_cons_of_mem _ hx)
    rw [List.flatMap_cons, List.length_cons, List.append_assoc]
    unfold tksP
    rw [tkP_one (h w (by simp))]
    show (tksP L.length ((oneB w ++ (L.flatMap oneB ++ more)).drop (oneB w).length)).map (w :: ·) = _
    rw [List.drop_left, ih]; rfl
theorem taP_bat {q : Nat} {L : List Wri} (h : okB12 q L = true) : taP (numB q ++ rowsB L) = ((q : Int), L) := by
  obtain ⟨hB, h1, h2⟩ := okB12_iff.1 h
  have hl8 := isB_len hB
  unfold taP
  rw [takeN_numB (by omega)]
  show (if (0 : Int) ≠ 0 then _ else _ : Int × List Wri) = _
  rw [if_neg (by omega)]
  have e1 : (numB q ++ rowsB L).drop (((q : Int), ((numB q).length : Int), (0 : Int)).2.1.toNat) = rowsB L := by
    show (numB q ++ rowsB L).drop ((numB q).length : Int).toNat = _
    rw [show ((numB q).length : Int).toNat = (numB q).length by omega, List.drop_left]
  rw [e1]
  have e2 : takeN (rowsB L) = ((L.length : Int), ((numB L.length).length : Int), 0) := by unfold rowsB; exact takeN_numB (by omega) _
  show (if (takeN (rowsB L)).2.2 ≠ 0 ∨ 8 < (takeN (rowsB L)).1 then ((0 : Int), ([] : List Wri)) else match tksP (takeN (rowsB L)).1.toNat ((rowsB L).drop (takeN (rowsB L)).2.1.toNat) with | none => ((0 : Int), ([] : List Wri)) | some l => ((q : Int), l)) = _
  rw [e2]
  show (if (0 : Int) ≠ 0 ∨ (8 : Int) < (L.length : Int) then _ else _ : Int × List Wri) = _
  rw [if_neg (by omega)]
  show (match tksP (L.length : Int).toNat ((rowsB L).drop ((numB L.length).length : Int).toNat) with | none => ((0 : Int), ([] : List Wri)) | some l => ((q : Int), l)) = _
  rw [show (L.length : Int).toNat = L.length by omega, show ((numB L.length).length : Int).toNat = (numB L.length).length by omega]
  unfold rowsB
  rw [List.drop_left]
  have := tksP_rows (L := L) [] (isB_all hB)
  rw [List.append_nil] at this
  rw [this]
theorem sealB_inj {a b : List UInt8} (ha : a.length ≤ 9223372036854775807) (hb : b.length ≤ 9223372036854775807) (h : sealB a = sealB b) : a = b := by
  have e1 := openB_seal (l := a) (more := []) ha
  have e2 := openB_seal (l := b) (more := []) hb
  rw [h, e2] at e1
  exact (Prod.mk.inj e1).1.symm
/-- what the program reads is what the document reads -/
theorem readP {s x : List UInt8} {n : Nat} (hs : s.length ≤ 1000000) (e : openB s = (x, (n : Int), 0)) : readR s = if (bytB (taP x).1 (taP x).2).1 = s.take n then ((taP x).1, (taP x).2, (n : Int), 0) else (0, [], 0, 10) := by
  obtain ⟨more, hm⟩ := openB_inv e
  have hx : x.length ≤ s.length := by rw [hm, List.length_append, sealB_len]; omega
  have hn : n = (sealB x).length := by
    have := openB_seal (l := x) (more := more) (by omega)
    rw [← hm, e] at this
    have := (Prod.mk.inj (Prod.mk.inj this).2).1
    omega
  have ht : s.take n = sealB x := by rw [hm, hn, List.take_left]
  have hp : 0 < (sealB x).length := by rw [sealB_len]; omega
  rw [ht]
  by_cases hb : (bytB (taP x).1 (taP x).2).1 = sealB x
  · rw [if_pos hb]
    have ho : okB12 (taP x).1 (taP x).2 = true := by
      cases ho : okB12 (taP x).1 (taP x).2 with
      | true => rfl
      | false =>
        unfold bytB at hb; rw [ho] at hb
        have := congrArg List.length hb
        simp at this; omega
    have hb2 : batB (taP x).1 (taP x).2 = sealB x := by rw [← hb]; unfold bytB; rw [ho]; rfl
    obtain ⟨h0, h1, h2⟩ := okB12_iff.1 ho
    obtain ⟨q, hq⟩ : ∃ q : Nat, (taP x).1 = (q : Int) := ⟨(taP x).1.toNat, by omega⟩
    rw [hq] at ho hb2 ⊢
    rw [hm, hn, ← hb2]
    exact readR_bat ho more
  · rw [if_neg hb]
    rcases takeN_range x with (e1 | e1) | ⟨q, k, e1, q1, k1, k2, k3⟩
    · exact readR_num e (by rw [e1]; simp)
    · exact readR_num e (by rw [e1]; simp)
    · rw [readR_eq e e1]
      cases htr : takeR (x.drop k) with
      | none => rfl
      | some l =>
        show (if (bytB q l).2 = 0 ∧ (bytB q l).1 = s.take n then _ else _) = _
        refine if_neg fun ⟨b1, b2⟩ => ?_
        obtain ⟨c1, c2⟩ := bytB_ok b1
        rw [ht, c2] at b2
        obtain ⟨hB, h1, h2⟩ := okB12_iff.1 c1
        have hrl := rowsB_len hB
        have ln := numB_len (n := q) (by omega)
        have hxe : numB (q : Int).toNat ++ rowsB l = x := sealB_inj (by rw [List.length_append, show (q : Int).toNat = q by omega]; omega) (by omega) b2
        rw [show (q : Int).toNat = q by omega] at hxe
        rw [← hxe, taP_bat c1] at hb
        refine hb ?_
        show (bytB q l).1 = _
        rw [c2, hxe]; exact b2
end Go.Proofs.Ythncpgkpkdolfaa

set_option maxRecDepth 1000000
set_option linter.all false
namespace Go.Proofs.Ythncpgkpkdolfaa
open Go Go.Ev
noncomputable abbrev s23_0 : CC := (CC.seq (CC.region [(wB 17 (doMove (tm 1))), (wB 18 (doLenS (tm 17))), (wB 4 (doMove (tm 18))), (wB 5 (doMove (O.c V.x0)))]) CC.ret)
noncomputable abbrev s23_1 : CC := (CC.seq (CC.region [(wB 8 (doMove (tm 0))), (wB 9 (doMove (tm 0))), (wB 10 (doNilCheck (tm 9))), (wB 11 (doFieldAddr 1 (tm 10))), (wB 12 (doLoad (tm 11))), (wB 13 (doMove (tm 1))), (wB 14 (doAppendS 5 (tm 12) (tm 13))), (wB 15 (doNilCheck (tm 8))), (wB 16 (doFieldAddr 1 (tm 15))), (CO.mk G.none D.none Bool.true (CR.mk (doStore 1 (tm 16) (tm 14))))]) s23_0)
noncomputable abbrev s23_2 : CC := (CC.seq (CC.region [(wB 6 (doMove (tm 0))), (wB 7 (doCall 42 [(tm 6)]))]) s23_1)
noncomputable abbrev b23 : CC := (CC.seq (CC.region [(wB 4 (doMove (oN 0))), (wB 5 (doMove (O.c V.x0)))]) s23_2)
theorem c23 : compFn Try.prog 23 = ⟨19, b23, [(Rs.tmp (slOf 4)), (Rs.tmp (slOf 5))]⟩ := by kernel_rfl
noncomputable abbrev s27_0 : CC := (CC.seq (CC.draws [(uB 3 (doMove (tm 0))), (uB 4 (doNilCheck (tm 3))), (uB 5 (doFieldAddr 1 (tm 4))), (uB 6 (doLoad (tm 5))), (uB 7 (doSData (tm 6))), (uB 8 (doMove (tm 0))), (uB 9 (doNilCheck (tm 8))), (uB 10 (doFieldAddr 1 (tm 9))), (uB 11 (doLoad (tm 10))), (uB 12 (doLen (tm 11))), (wB 13 (doUStr 5 (tm 7) (tm 12))), (uB 2 (doMove (tm 13)))]) CC.ret)
noncomputable abbrev b27 : CC := (CC.seq (CC.region [(wB 2 (doMove (O.c (V.s 0 0))))]) s27_0)
theorem c27 : compFn Try.prog 27 = ⟨14, b27, [(Rs.tmp (slOf 2))]⟩ := by kernel_rfl
noncomputable abbrev s42_0 : CC := (CC.region [(wB 7 (doMove (tm 0))), (wB 8 (doMove (tm 0))), (wB 9 (doP2U (tm 8))), (wB 10 (doMove (tm 9))), (wB 11 (doU2P 54 2 (tm 10))), (wB 12 (doNilCheck (tm 7))), (wB 13 (doFieldAddr 0 (tm 12))), (CO.mk G.none D.none Bool.true (CR.mk (doStore 1 (tm 13) (tm 11))))])
noncomputable abbrev s42_1 : CC := (CC.cond (tm 19) CC.bad CC.skip)
noncomputable abbrev s42_2 : CC := (CC.seq (CC.region [(wB 14 (doMove (tm 0))), (wB 15 (doNilCheck (tm 14))), (wB 16 (doFieldAddr 0 (tm 15))), (wB 17 (doLoad (tm 16))), (wB 18 (doMove (tm 0))), (wB 19 (doPtr Bool.true (tm 17) (tm 18)))]) s42_1)
noncomputable abbrev s42_3 : CC := (CC.cond (tm 6) s42_0 s42_2)
noncomputable abbrev b42 : CC := (CC.seq (CC.region [(wB 2 (doMove (tm 0))), (wB 3 (doNilCheck (tm 2))), (wB 4 (doFieldAddr 0 (tm 3))), (wB 5 (doLoad (tm 4))), (wB 6 (doPtr Bool.false (tm 5) (O.c V.p0)))]) s42_3)
theorem c42 : compFn Try.prog 42 = ⟨20, b42, []⟩ := by kernel_rfl
end Go.Proofs.Ythncpgkpkdolfaa

set_option maxRecDepth 100000
set_option maxHeartbeats 8000000
set_option linter.all false
namespace Go.Proofs.Ythncpgkpkdolfaa
open Go Go.Ev
section
variable {h : H} {lo : Nat} {id : B} {U : B → Prop} {a : List UInt8}
theorem copyCheck_ok (s : Sb h lo 54 5 id U a) : FnOk Try.prog 42 [.p id 0 0 2] h fun y h' => Sb h' lo 54 5 id U a ∧ Stay U h h' := by
  obtain ⟨⟨adr, w, o, ha, b, hw, hn⟩, hself, hlo⟩ := s
  refine fn_go c42 (by intro hb; cases hb) (by simp) (by simp) fun Q hQ => ?_
  simp only [slotsF, Nat.reduceAdd]
  have or := o.own.row
  rcases ha with rfl | rfl
  · repeat' (first
      | refine St.h ?_
      | simp (disch := first | omega | (simp only [lnv]; omega)) only [wlk, ↓get_put', ↓reduceIte, seval, or.l1, or_ptr, h2_ptr00, h2_ptr01, h2_ptr10, h2_ptr11, or_p2u, or_u2p, o.pu, o.up]
      | (with_reducible (first | apply cd_split | apply gd_split)) <;> (intro hc; (try simp only [hcn] at hc); (try simp only [hc]); (try simp only [hcl] at hc); try omega))
    refine ST.ownE (y := .p id 0 0 2) o rfl rfl (by omega) (by omega) fun h' o' s' => ?_
    repeat' (first
      | refine St.h ?_
      | simp (disch := first | omega | (simp only [lnv]; omega)) only [wlk, ↓get_put', ↓reduceIte, seval]
      | (with_reducible (first | apply cd_split | apply gd_split)) <;> (intro hc; (try simp only [hcn] at hc); (try simp only [hc]); (try simp only [hcl] at hc); try omega))
    subst hQ
    exact ⟨⟨⟨.p id 0 0 2, w, o', .inr rfl, b.stay s' (fun i hi e => hn (by rw [← e]; exact hi)), hw, hn⟩, hself, fun i hi => ⟨(hlo i hi).1, Nat.lt_of_lt_of_le (hlo i hi).2 s'.next⟩⟩, s'.mono fun i _ hi => by rw [hi]; exact hself⟩
  · repeat' (first
      | refine St.h ?_
      | simp (disch := first | omega | (simp only [lnv]; omega)) only [wlk, ↓get_put', ↓reduceIte, seval, or.l1, or_ptr, h2_ptr00, h2_ptr01, h2_ptr10, h2_ptr11]
      | (with_reducible (first | apply cd_split | apply gd_split)) <;> (intro hc; (try simp only [hcn] at hc); (try simp only [hc]); (try simp only [hcl] at hc); try omega))
    subst hQ
    exact ⟨⟨⟨.p id 0 0 2, w, o, .inr rfl, b, hw, hn⟩, hself, hlo⟩, Stay.refl _ _⟩
theorem bld_end {h h1 h2 h3 : H} {w w' adr : V} {c : List UInt8} (hself : U id) (hlo : ∀ i, U i → lo ≤ B.val i ∧ B.val i < B.val h1.next) (hw : ∀ i, isOf w i → U i) (hn : ¬ isOf w id) (hidlt : B.val id < B.val h1.next)
    (ha : adr = .p0 ∨ adr = .p id 0 0 2) (st1 : Stay U h h1) (b2 : Buf h2 5 1 w' ((a ++ c).map bv)) (st2 : Stay (isOf w) h1 h2) (hw2 : ∀ i, isOf w' i → isOf w i ∨ B.val h1.next ≤ B.val i) (o3 : OwnE h3 id 54 [adr, w']) (st3 : Stay (fun i => i = id) h2 h3) :
    ∃ U', Sb h3 lo 54 5 id U' (a ++ c) ∧ Stay U h h3 ∧ ∀ i, U' i → U i ∨ B.val h.next ≤ B.val i := by
  have hn2 : ¬ isOf w' id := fun e => by
    rcases hw2 _ e with h7 | h7
    · exact hn h7
    · omega
  have hlo0 := (hlo _ hself).1
  refine ⟨fun i => U i ∨ isOf w' i, ⟨⟨adr, w', o3, ha, b2.stay st3 (fun i hi e => hn2 (by rw [← e]; exact hi)), fun i hi => .inr hi, hn2⟩, .inl hself, ?_⟩, ?_, ?_⟩
  · have n2 := st2.next
    have n3 := st3.next
    rintro i (hi | hi)
    · have := hlo i hi; omega
    · have h8 := b2.own hi
      rcases hw2 _ hi with h7 | h7
      · have := hlo i (hw i h7); omega
      · omega
  · exact (st1.trans (st2.mono fun i _ hi => hw i hi)).trans (st3.mono fun i _ hi => by rw [hi]; exact hself)
  · have n1 := st1.next
    rintro i (hi | hi)
    · exact .inl hi
    · rcases hw2 _ hi with h7 | h7
      · exact .inl (hw i h7)
      · exact .inr (by omega)
theorem writeString_ok {c : List UInt8} (s : Sb h lo 54 5 id U a) (hl : a.length + c.length ≤ 1048576) (hf : B.val h.floor ≤ B.val h.next) : FnOk Try.prog 23 [.p id 0 0 2, sv c] h fun y h' => ∃ U', Sb h' lo 54 5 id U' (a ++ c) ∧ Stay U h h' ∧ ∀ i, U' i → U i ∨ B.val h.next ≤ B.val i := by
  refine fn_go c23 (by intro hb; cases hb) (by simp) (by simp) fun Q hQ => ?_
  simp only [slotsF, Nat.reduceAdd]
  repeat' (first
    | refine St.h ?_
    | simp (disch := first | omega | (simp only [lnv]; omega)) only [wlk, ↓get_put', ↓reduceIte, seval]
    | (with_reducible (first | apply cd_split | apply gd_split)) <;> (intro hc; (try simp only [hcn] at hc); (try simp only [hc]); (try simp only [hcl] at hc); try omega))
  refine CL.mk (copyCheck_ok s) ?_
  rintro _ h1 ⟨⟨⟨adr, w, o, ha, b, hw, hn⟩, hself, hlo⟩, st1⟩
  have or := o.own.row
  repeat' (first
    | refine St.h ?_
    | simp (disch := first | omega | (simp only [lnv]; omega)) only [wlk, ↓get_put', ↓reduceIte, seval, or.l1]
    | (with_reducible (first | apply cd_split | apply gd_split)) <;> (intro hc; (try simp only [hcn] at hc); (try simp only [hc]); (try simp only [hcl] at hc); try omega))
  refine AS.buf b (st1.fl hf) hl fun w' h2 b2 st2 hw2 tp => ?_
  have o2 := o.stay st2 hn
  obtain ⟨c1, c2, _⟩ := buf_cells b2
  repeat' (first
    | refine St.h ?_
    | simp (disch := first | omega | (simp only [lnv]; omega)) only [wlk, ↓get_put', ↓reduceIte, seval]
    | (with_reducible (first | apply cd_split | apply gd_split)) <;> (intro hc; (try simp only [hcn] at hc); (try simp only [hc]); (try simp only [hcl] at hc); try omega))
  refine ST.ownE o2 c1 c2 (by omega) (by omega) fun h3 o3 st3 => ?_
  repeat' (first
    | refine St.h ?_
    | simp (disch := first | omega | (simp only [lnv]; omega)) only [wlk, ↓get_put', ↓reduceIte, seval]
    | (with_reducible (first | apply cd_split | apply gd_split)) <;> (intro hc; (try simp only [hcn] at hc); (try simp only [hc]); (try simp only [hcl] at hc); try omega))
  subst hQ
  exact bld_end hself hlo hw hn o.lt ha st1 b2 st2 hw2 o3 st3
theorem string_ok (s : Sb h lo 54 5 id U a) (hl : a.length ≤ 1048576) : FnOk Try.prog 27 [.p id 0 0 2] h fun y h' => y = sv a ∧ Stay U h h' := by
  refine fn_go c27 (by intro hb; cases hb) (by simp) (by simp) fun Q hQ => ?_
  simp only [slotsF, Nat.reduceAdd]
  obtain ⟨⟨adr, w, o, ha, b, hw, hn⟩, hself, hlo⟩ := s
  have or := o.own.row
  have hln := fun g N => b.lst.ln (P := Try.prog) (h := g) (N := N)
  rw [List.length_map] at hln
  obtain ⟨pv, hpv1, hpv2⟩ : ∃ pv : V, (∀ g N, H1 Try.prog gSData w g N = N.go Try.prog pv g) ∧ ∀ k : V → Bool, (vL w (fun _ => k .p0) fun id g off len fin _ => k (.p id g off fin)) = k pv := by
    rcases b with ⟨rfl, _⟩ | ⟨i, g, n, blk, rfl, b1, _⟩
    · exact ⟨.p0, fun g N => hv_of fun k => rfl, fun k => rfl⟩
    · refine ⟨.p i g 0 _, fun g N => hv_of fun k => ?_, fun k => rfl⟩
      have : Nat.ble 1 n = true := by rw [Nat.ble_eq]; exact b1
      show (ifK (Nat.ble 1 n) fun _ => k (.p i _ 0 _)) = _
      rw [this, ifK_true]
  repeat' (first
    | refine St.h ?_
    | simp (disch := first | omega | (simp only [lnv]; omega)) only [wlk, ↓get_put', ↓reduceIte, seval, or.l1, or_sdata, hpv1, hln, or_ustr]
    | (with_reducible (first | apply cd_split | apply gd_split)) <;> (intro hc; (try simp only [hcn] at hc); (try simp only [hc]); (try simp only [hcl] at hc); try omega))
  obtain ⟨h', e', st'⟩ := ustr_eq b hl (fun _ _ _ _ => false) F.zero (.c pv) (.c (.i .i64 (a.length : Int))) hpv2 rfl
  refine US.of (v := sv a) (h' := h') (fun k => ?_) ?_
  · have := e' k
    simp only [doUStr, oE_eq] at this
    exact this
  repeat' (first
    | refine St.h ?_
    | simp (disch := first | omega | (simp only [lnv]; omega)) only [wlk, ↓get_put', ↓reduceIte, seval]
    | (with_reducible (first | apply cd_split | apply gd_split)) <;> (intro hc; (try simp only [hcn] at hc); (try simp only [hc]); (try simp only [hcl] at hc); try omega))
  subst hQ
  exact ⟨rfl, st'.mono fun i _ hi => hw i hi⟩
end
end Go.Proofs.Ythncpgkpkdolfaa

set_option linter.all false
namespace Go.Ev
open Go
theorem CPS.own {P : Program} {h : H} {N : Nx} {id : B} {el fin : Nat} {xs : List V} {s : List UInt8} {cap : Option Nat} (o : OwnE h id el xs) (hne : 1 ≤ s.length) (hj : s.length ≤ fin) (hfit : s.length < 2 ^ 37)
    (k : ∀ h', OwnE h' id el (s.map bv) → Stay (fun i => i = id) h h' → N.go P (.i .i64 (s.length : Int)) h') : CPS P (.l id 0 0 s.length fin cap) (sv s) h N := by
  obtain ⟨blk, a1, a2, a3, a4, aE, a5, a6, a7⟩ := o
  obtain ⟨next, floor, heap⟩ := h
  obtain ⟨cur, min, sz, cs, bel, fr⟩ := blk
  simp only at a2 a3 a4 aE a7
  subst a2; subst a3; subst a4; subst aE
  have hvl : (s.map bv).length = s.length := List.length_map _
  obtain ⟨tr, t1, t2, t3⟩ := setList_fine (s.map bv) 0 cs (by omega)
  obtain ⟨hp, s1, s2, s3⟩ := setK_ok id (⟨0, 0, sz, tr, bel, 0⟩ : Blk) heap
  have e1 : B.geB floor id = true := by cases floor <;> first | rfl | (show Nat.ble _ _ = true; rw [Nat.ble_eq]; exact a5)
  have e2 : Nat.ble (Nat.add 0 (s.map bv).length) fin = true := by rw [Nat.ble_eq]; show 0 + (s.map bv).length ≤ fin; omega
  have e4 : frOk 0 0 = true := rfl
  have e5 : Nat.beq 0 0 = true := rfl
  have e6 : Nat.ble 0 0 = true := rfl
  have a1' : heap.get id = some ⟨0, 0, sz, cs, bel, 0⟩ := a1
  refine hm_of (v := .i .i64 (s.length : Int)) (h' := ⟨next, floor, hp⟩) (fun q => ?_) (k _ ⟨_, s2, rfl, rfl, rfl, rfl, a5, a6, fun i z hz => by have := t2 i z hz; rwa [Nat.zero_add] at this⟩ ⟨rfl, Nat.le_refl _, fun i _ hi => s3 i hi⟩)
  show natC s.length (fun _ => false) (fun _ => copyToS (sv s) ⟨next, floor, heap⟩ q id 0 0 s.length fin) = _
  obtain ⟨m, hm⟩ : ∃ m, s.length = m + 1 := ⟨s.length - 1, by omega⟩
  have hc : ∀ (z : Unit → Bool) (f : Nat → Bool), natC s.length z f = f (m + 1) := fun z f => by rw [hm]; rfl
  rw [hc]
  unfold copyToS
  show unpK s.length (pk s) [] (fun vs => ifK (Nat.beq s.length s.length) fun _ => store ⟨next, floor, heap⟩ id 0 0 fin vs fun h => q (.i .i64 (.ofNat s.length)) h) = _
  rw [unpK_map _ _ _ _ rfl, List.append_nil, Nat.beq_refl, ifK_true]
  simp only [store, hK_mk, a1', optK_some, blkK_mk, e5, e6, e1, e2, allOne_bv, e4, ifK_true]
  rw [t1, s1]; rfl
theorem US.own {P : Program} {h : H} {N : Nx} {id : B} {el fin : Nat} {a : List UInt8} (o : OwnE h id el (a.map bv)) (hne : 1 ≤ a.length) (hj : a.length ≤ fin) (hl : a.length ≤ 1048576)
    (k : ∀ h', Stay (fun i => i = id) h h' → N.go P (sv a) h') : US P el (.p id 0 0 fin) (.i .i64 (a.length : Int)) h N := by
  have hrow : Row h id 0 0 (a.map bv) := o.own.row
  obtain ⟨blk, a1, a2, a3, a4, aE, a5, a6, a7⟩ := o
  have hld : ∀ k, loadN h id 0 0 fin a.length k = k (a.map bv) := fun k => by
    have := loadN_row (n := (a.map bv).length) (fin := fin) hrow rfl (by intro h0; have := congrArg List.length h0; simp at this; subst this; simp at hne) (by rw [List.length_map]; omega) k
    rwa [List.length_map] at this
  obtain ⟨next, floor, heap⟩ := h
  obtain ⟨cur, min, sz, cells, bel, fr⟩ := blk
  simp only at a2 a3 a4 aE a7
  subst a2; subst a3; subst a4; subst aE
  obtain ⟨hp, s1, s2, s3⟩ := setK_ok id (⟨0, 0, sz, cells, bel, a.length + 2⟩ : Blk) heap
  have a1' : heap.get id = some ⟨0, 0, sz, cells, bel, 0⟩ := a1
  have g2 : Nat.beq bel bel = true := Nat.beq_refl bel
  have g3 : B.geB floor id = true := by cases floor <;> first | rfl | (show Nat.ble _ _ = true; rw [Nat.ble_eq]; exact a5)
  have g4 : Nat.ble 1 a.length = true := by rw [Nat.ble_eq]; exact hne
  have g5 : Nat.ble a.length 1048576 = true := by rw [Nat.ble_eq]; exact hl
  have g6 : Nat.beq 0 0 = true := rfl
  have g7 : Nat.ble 0 0 = true := rfl
  refine US.of (v := sv a) (h' := ⟨next, floor, hp⟩) (fun q => ?_) (k _ ⟨rfl, Nat.le_refl _, fun i _ hi => s3 i hi⟩)
  simp only [vI_i, kdEq_self, ifK_true, natK_cast, vPZ_p]
  unfold uStrK
  rw [g6, ifK_true, g4, ifK_true, g5, ifK_true]
  simp only [elK, hK_mk, a1', optK_some, blkK_mk, g7, g2, ifK_true]
  rw [hld, pack_bv]
  have e0 : 0 * 256 ^ a.length + pk a = pk a := by rw [Nat.zero_mul, Nat.zero_add]
  rw [e0]
  simp only [freezeK, hK_mk, a1', optK_some, blkK_mk, g3, ifK_true]
  show fN (Nat.add a.length 2) (fun fr' => T.setK id ⟨0, 0, sz, cells, bel, fr'⟩ heap fun heap => q (.s a.length (pk a)) ⟨next, floor, heap⟩) = _
  rw [fN_eq]
  exact s1 _
theorem Own.ra3 {h : H} {Q : V → H → Prop} {id : B} {a b c : V} {us : List V} (o : Own h id [a, b, c]) : RA Q 3 (.p id 0 0 3) us h = Q (one (.a [a, b, c] :: us)) h := o.ra rfl (by omega) (by omega)
end Go.Ev

set_option maxRecDepth 1000000
namespace Go.Proofs.Ythncpgkpkdolfaa.ravelinlaw12
open Go.Ev
theorem known_run : runFn noTb Try.prog 1000 7 [] = true := by kernel_rfl
theorem known_pure : PureTrue Try.prog 7 := pure_of (noTb_ok _) (Checked.mixed Try.checked) known_run
end Go.Proofs.Ythncpgkpkdolfaa.ravelinlaw12
