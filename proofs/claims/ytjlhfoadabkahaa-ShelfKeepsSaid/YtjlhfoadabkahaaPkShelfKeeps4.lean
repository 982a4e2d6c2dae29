/- Texts of ours, without what this claim does not use: Wr JrShU Base NShU Wo NShK NShL Wg NShY RfM JrShA NShA Wq NShF NShB NShC NShD NShE NShG ShM NShM NShN NShO. No condition. -/
import Derived.Test.YtjlhfoadabkahaaPkShelfKeeps3
import Derived.Test.YtjlhfoadabkahaaProg
import Derived.KernelRfl
import Derived.Test.YtjlhfoadabkahaaChecked
import Derived.StringKeys
set_option linter.all false
namespace Go.Ev
open Go Go.MapKept Go.ChangeMaps
/-- what the compiled parts of a range over a map are: 'for k, v := range m' -/
structure RngShape (P : Program) (nt : Nat) (c : Code) (cpre : List CO) (m : Operand) (it : Nat) (cX : List CO) (more : Operand) (out nxt : Nat) (nx pr : Nat) (crest : List CO) (cb : Sh) : Prop where
  ok : ∃ id0 ops0 id1 ops1 id2 ops2 body, c = .seq (.region id0 ops0 false) (.block out (.loop (.seq (.region id1 ops1 false) (.seq (.cond more .skip (.exit out)) (.block nxt (.seq (.region id2 ops2 false) body)))))) ∧
    (∃ pre oR T0 kt et, ops0.toList = pre ++ [oR] ∧ oR.op = .range T0 m ∧ oR.dst = some it ∧ oR.guard = none ∧ P.underlying T0 = some (.map kt et) ∧ cpre = compOpsWith (fun _ => true) P nt ops0.toList (compOp P) 0 pre) ∧
    (∃ oN restN, ops1.toList = oN :: restN ∧ oN.op = .next (.tmp it) false ∧ oN.dst = some nx ∧ oN.guard = none ∧ cX = compOpsWith (fun _ => true) P nt ops1.toList (compOp P) 1 restN) ∧
    (∃ oE restE, ops2.toList = oE :: restE ∧ oE.op = .entry (.tmp it) ∧ oE.dst = some pr ∧ oE.guard = none ∧ crest = compOpsWith (fun _ => true) P nt ops2.toList (compOp P) 1 restE) ∧
    ∃ ns nb, shOf P ns nt nb body = cb
  itl : it < nt ∧ it < 512
  nxl : nx < nt ∧ nx < 512
  prl : pr < nt ∧ pr < 512
def VisOk (E vis : En) : Prop := (∀ p ∈ vis, p ∈ E) ∧ (keysE vis).Nodup
/-- which object a map is: a pinned one, or one that was there when w0 was -/
def ExM (pin : Bool) (ρ : Emb) (h : H) (w0 : World) (idm : B) (E : En) (LM0 : Loc) (es : Array MapEntry) (clock : Nat) : Prop := match pin with
  | true => ∃ bM gM LM, h.heap.get idm = some bM ∧ bM.cur = gM ∧ bM.min = gM + 9 ∧ ρ idm gM = some LM ∧ LM.b = LM0.b ∧ LM.it = some (.inr (es, clock)) ∧ RdP bM.cells bM.el (toP E) ∧ B.val h.floor ≤ B.val idm
  | false => LM0.b < w0.heap.size ∧ w0.heap[LM0.b]? = some (.map es clock)
theorem ExM.get {pin : Bool} {ρ : Emb} {h : H} {w w0 : World} {idm : B} {E : En} {LM0 : Loc} {es : Array MapEntry} {clock : Nat} (x : ExM pin ρ h w0 idm E LM0 es clock) (R : HRel ρ h w w0) : w.heap[LM0.b]? = some (.map es clock) := by
  cases pin with
  | true =>
    obtain ⟨bM, gM, LM, x1, x2, x3, x4, x5, x6, _⟩ := x
    have hM := R.ito idm gM LM bM _ x4 x1 x2 (by omega) x6
    rw [← x5]; exact hM
  | false => exact (R.old _ x.1).trans x.2
theorem ExM.up {pin : Bool} {ρ ρ' : Emb} {h h' : H} {w0 : World} {idm : B} {E : En} {LM0 : Loc} {es : Array MapEntry} {clock : Nat} (x : ExM pin ρ h w0 idm E LM0 es clock) (hle : ρ.le ρ') (hf : h'.floor = h.floor) (hg : h'.heap.get idm = h.heap.get idm) : ExM pin ρ' h' w0 idm E LM0 es clock := by
  cases pin with
  | true =>
    obtain ⟨bM, gM, LM, x1, x2, x3, x4, x5, x6, x7, x8⟩ := x
    exact ⟨bM, gM, LM, hg.trans x1, x2, x3, hle _ _ _ x4, x5, x6, x7, by rw [hf]; exact x8⟩
  | false => exact x
/-- what is known while a map is ranged over -/
structure Rng (pin : Bool) (ρ : Emb) (h : H) (w0 : World) (idm idI : B) (E vis : En) : Prop where
  ok : ∃ bI gI LI LI0 LM0 es clock seen visE, h.heap.get idI = some bI ∧ bI.cur = gI ∧ bI.min = gI + 9 ∧ ρ idI gI = some LI ∧ ρ idI 0 = some LI0 ∧ LI.b = LI0.b ∧ LI0.s = 0 ∧ LI.it = some (.inl (LM0.b, clock, seen, clock)) ∧
    ρ idm 0 = some LM0 ∧ ExM pin ρ h w0 idm E LM0 es clock ∧ MapP ρ (toP E) es clock ∧
    F2 ρ (toP vis) visE ∧ seen.toList = visE.map (·.born) ∧ (∀ e ∈ visE, e ∈ es.toList)
  ne : idI ≠ idm
  floI : B.val h.floor ≤ B.val idI
  nod : (keysE E).Nodup
  vis : VisOk E vis
theorem Rng.next {pin : Bool} {ρ ρ' : Emb} {h h' : H} {w0 : World} {idm idI : B} {E vis : En} (r : Rng pin ρ h w0 idm idI E vis) (hle : ρ.le ρ') (hf : h'.floor = h.floor) (h1 : h'.heap.get idI = h.heap.get idI) (h2 : h'.heap.get idm = h.heap.get idm) : Rng pin ρ' h' w0 idm idI E vis := by
  obtain ⟨bI, gI, LI, LI0, LM0, es, clock, seen, visE, a1, a2, a3, a4, a5, a6, a7, a8, b4, b5, b8, b9, c1, c2⟩ := r.ok
  exact ⟨⟨bI, gI, LI, LI0, LM0, es, clock, seen, visE, h1.trans a1, a2, a3, hle _ _ _ a4, hle _ _ _ a5, a6, a7, a8, hle _ _ _ b4, b5.up hle hf h2, b8.up hle, b9.up hle, c1, c2⟩, r.ne, by rw [hf]; exact r.floI, r.nod, r.vis⟩
theorem getE_in {E : En} {k : List UInt8} {v : V} (h : getE E k = some v) : (k, v) ∈ E := by
  induction E with
  | nil => cases h
  | cons p r ih =>
    obtain ⟨a, u⟩ := p
    have h : (if k = a then some u else getE r k) = some v := h
    by_cases e : k = a
    · rw [if_pos e] at h; cases h; rw [e]; exact List.mem_cons_self ..
    · rw [if_neg e] at h; exact List.mem_cons_of_mem _ (ih h)
theorem getE_of {E : En} (hn : (keysE E).Nodup) {k : List UInt8} {v : V} (h : (k, v) ∈ E) : getE E k = some v := by
  induction E with
  | nil => cases h
  | cons p r ih =>
    obtain ⟨a, u⟩ := p
    have hn' := List.nodup_cons.1 (show (a :: keysE r).Nodup from hn)
    show (if k = a then some u else getE r k) = some v
    rcases List.mem_cons.1 h with e | h
    · cases e; rw [if_pos rfl]
    · rw [if_neg fun e => hn'.1 (by rw [← e]; exact List.mem_map.2 ⟨_, h, rfl⟩)]
      exact ih hn'.2 h
theorem toP_mem {E : En} {k : List UInt8} {v : V} : (sv k, v) ∈ toP E ↔ (k, v) ∈ E := by
  unfold toP
  rw [List.mem_map]
  constructor
  · rintro ⟨⟨a, u⟩, h1, h2⟩
    have h3 : sv a = sv k := congrArg Prod.fst h2
    have h4 : u = v := congrArg Prod.snd h2
    have : a = k := by
      have e : eqS a.length (pk a) k.length (pk k) = true := by
        unfold sv at h3
        injection h3 with q1 q2
        rw [← q1, ← q2]
        show (Nat.beq _ _ && Nat.beq _ _) = true
        rw [Nat.beq_refl, Nat.beq_refl]; rfl
      rw [eqS_sv] at e
      exact of_decide_eq_true e
    rw [← this, ← h4]; exact h1
  · intro h; exact ⟨(k, v), h, rfl⟩
theorem F2.mem {ρ : Emb} {E : En} {l : List MapEntry} (f : F2 ρ (toP E) l) {e : MapEntry} (h : e ∈ l) : ∃ k v, (k, v) ∈ E ∧ VRel ρ (sv k) e.key ∧ VRel ρ v e.val := by
  obtain ⟨i, hi⟩ := List.mem_iff_getElem?.1 h
  obtain ⟨kv, k1, k2, k3⟩ := f.get hi
  have hm : kv ∈ toP E := List.mem_of_getElem? k1
  unfold toP at hm
  obtain ⟨⟨a, u⟩, m1, m2⟩ := List.mem_map.1 hm
  refine ⟨a, u, m1, ?_, ?_⟩
  · rw [← m2] at k2; exact k2
  · rw [← m2] at k3; exact k3
theorem F2.mem2 {ρ : Emb} {ps : List (V × V)} {l : List MapEntry} (f : F2 ρ ps l) {kv : V × V} (h : kv ∈ ps) : ∃ e ∈ l, VRel ρ kv.1 e.key ∧ VRel ρ kv.2 e.val := by
  induction f with
  | nil => cases h
  | cons a b c ih =>
    rcases List.mem_cons.1 h with rfl | h
    · exact ⟨_, List.mem_cons_self .., a, b⟩
    · obtain ⟨e, e1, e2⟩ := ih h
      exact ⟨e, List.mem_cons_of_mem _ e1, e2⟩
theorem key_det {ρ : Emb} {k k' : List UInt8} {x : Value} (h1 : VRel ρ (sv k) x) (h2 : VRel ρ (sv k') x) : k = k' := by
  obtain ⟨b1, rfl, e1, e2, _⟩ := srel h1
  obtain ⟨b2, e, e3, e4, _⟩ := srel h2
  cases e
  have : eqS k.length (pk k) k'.length (pk k') = true := by
    rw [← e1, ← e2, ← e3, ← e4]
    show (Nat.beq _ _ && Nat.beq _ _) = true
    rw [Nat.beq_refl, Nat.beq_refl]; rfl
  rw [eqS_sv] at this
  exact of_decide_eq_true this
theorem key_det2 {ρ : Emb} {k : List UInt8} {x y : Value} (h1 : VRel ρ (sv k) x) (h2 : VRel ρ (sv k) y) : x = y := by
  have := keyEq_ok (kd := none) (r := true) (keyEq_self k) h1 h2
  exact this.2.2.1 rfl
section
variable {P : Program} {nt : Nat} {c : Code} {cpre : List CO} {m : Operand} {it : Nat} {cX : List CO} {more : Operand} {out nxt : Nat} {nx pr : Nat} {crest : List CO} {cb : Sh}
theorem wanted_none {o : Oper} {f : Nat → Option Bool} (h : o.guard = none) : Region.wanted o f = true := by simp [Region.wanted, h]
theorem tmp_ptr {ρ : Emb} {t : F} {a : Act} {id : B} {L : Loc} (A : ARel ρ nt t a) (hi : it < 512) (hg : get it t = .p id 0 0 0) (hL : ρ id 0 = some L) (h0 : L.s = 0) : a.eval (.tmp it) = .pointer (some ⟨L.b, 0, none⟩) := by
  have := opnd_rel A (.tmp it)
  have e : oV (compO (.tmp it)) t = get it t := by
    show oV (match Nat.ble (Nat.succ it) 512 with | true => O.t (slOf it) | false => .c .u) t = _
    have : Nat.ble (Nat.succ it) 512 = true := by rw [Nat.ble_eq]; exact hi
    rw [this]; rfl
  rw [e, hg] at this
  obtain ⟨M, m1, m2, _⟩ := this
  rw [hL] at m1
  cases m1
  rw [m2, h0]
/-- one step of the iterator -/
theorem Rng.step {pin : Bool} {ρ : Emb} {h : H} {w w0 : World} {idm idI : B} {E vis : En} (r : Rng pin ρ h w0 idm idI E vis) (R : HRel ρ h w w0) (ty : TypeId) :
    ∃ LI0, ρ idI 0 = some LI0 ∧ LI0.s = 0 ∧
    (((∀ p ∈ E, p ∈ vis) ∧ (Instr.next (.pointer (some ⟨LI0.b, 0, none⟩)) false ty).run P w = .ok (.tuple #[.bool false]) w) ∨
     ∃ k v kx vx h' ρ' w', (k, v) ∈ E ∧ k ∉ keysE vis ∧ (Instr.next (.pointer (some ⟨LI0.b, 0, none⟩)) false ty).run P w = .ok (.tuple #[.bool true, kx, vx]) w' ∧ VRel ρ' (sv k) kx ∧ VRel ρ' v vx ∧
       (Instr.entry (.pointer (some ⟨LI0.b, 0, none⟩))).run P w' = .ok (.tuple #[kx, vx]) w' ∧ ρ' idI 0 = some LI0 ∧
       KeepF h h' ∧ Stay (fun i => i = idI) h h' ∧ h'.next = h.next ∧ Ext h.floor ρ ρ' ∧ HRel ρ' h' w' w0 ∧ Rng pin ρ' h' w0 idm idI E (vis ++ [(k, v)])) := by
  obtain ⟨bI, gI, LI, LI0, LM0, es, clock, seen, visE, a1, a2, a3, a4, a5, a6, a7, a8, b4, b5, b8, b9, c1, c2⟩ := r.ok
  have hI := R.ito idI gI LI bI _ a4 a1 a2 (by omega) a8
  have hM' := b5.get R
  have hI' : w.heap[LI0.b]? = some (.mapIter (some LM0.b) clock seen clock) := by rw [← a6]; exact hI
  refine ⟨LI0, a5, a7, ?_⟩
  obtain ⟨l, l1, l2⟩ := b8.rel
  rcases run_next_at (P := P) w ty LI0.b LM0.b clock clock seen es clock hI' hM' b8.st.1 (Nat.le_refl _) with ⟨n1, n2⟩ | ⟨e, e1, w1, e2, e3⟩
  · refine .inl ⟨fun p hp => ?_, n2⟩
    obtain ⟨k, v⟩ := p
    obtain ⟨e, f1, f2, f3⟩ := l2.mem2 (toP_mem.2 hp)
    have hes : e ∈ es.toList := l1.mem_iff.1 f1
    have hseen : e.born ∈ seen.toList := by
      have hl : leftOf es seen = #[] := Array.eq_empty_of_size_eq_zero n1
      by_cases hc : seen.contains e.born = true
      · simpa using hc
      · have : e ∈ (leftOf es seen).toList := by
          unfold leftOf
          simp only [Array.toList_filter, List.mem_filter]
          exact ⟨hes, by simpa using hc⟩
        rw [hl] at this; cases this
    rw [c1, List.mem_map] at hseen
    obtain ⟨e', g1, g2⟩ := hseen
    have hee : e' = e := by
      have hn := b8.st.2.1
      have i1 := c2 e' g1
      obtain ⟨i, hi⟩ := List.mem_iff_getElem?.1 i1
      obtain ⟨j, hj⟩ := List.mem_iff_getElem?.1 hes
      have hp := List.pairwise_map.1 hn
      rw [List.pairwise_iff_getElem] at hp
      obtain ⟨x1, x2⟩ := List.getElem?_eq_some_iff.1 hi
      obtain ⟨y1, y2⟩ := List.getElem?_eq_some_iff.1 hj
      rcases Nat.lt_trichotomy i j with q | q | q
      · exact absurd (by rw [x2, y2]; exact g2) (hp i j x1 y1 q)
      · subst q; rw [← x2, ← y2]
      · exact absurd (by rw [x2, y2]; exact g2.symm) (hp j i y1 x1 q)
    subst hee
    obtain ⟨k', v', v1, v2, v3⟩ := b9.mem g1
    have hk : k' = k := key_det v2 f2
    subst hk
    have := r.vis.1 _ v1
    have : v' = v := by
      have hn := r.nod
      have h1 := getE_of hn this
      have h2 := getE_of hn hp
      rw [h1] at h2
      exact Option.some.inj h2
    subst this
    exact v1
  · obtain ⟨m1, m2⟩ := mem_left e1
    have hes : e ∈ l := l1.mem_iff.2 m1
    obtain ⟨k, v, v1, v2, v3⟩ := l2.mem hes
    have hk : k ∉ keysE vis := fun hk => by
      obtain ⟨u, hu⟩ := getE_mem.2 hk
      have hm := getE_in hu
      obtain ⟨e', f1, f2, f3⟩ := b9.mem2 (toP_mem.2 hm)
      have hkey : e'.key = e.key := key_det2 f2 v2
      obtain ⟨i, hi⟩ := List.mem_iff_getElem?.1 (c2 e' f1)
      obtain ⟨j, hj⟩ := List.mem_iff_getElem?.1 m1
      have := key_uniq b8.st hi hj hkey
      subst this
      rw [hi] at hj
      cases hj
      have hc : e.born ∈ seen.toList := by rw [c1]; exact List.mem_map.2 ⟨e, f1, rfl⟩
      have : seen.contains e.born = true := by simpa using hc
      rw [this] at m2; cases m2
    have hw1 : w1.heap = w.heap ∧ w1.tape = w.tape ∧ w1.os = w.os ∧ w1.output = w.output := by rcases e2 with rfl | rfl <;> exact ⟨rfl, rfl, rfl, rfl⟩
    have hlt : LI0.b < w.heap.size := (Array.getElem?_eq_some_iff.1 hI').1
    obtain ⟨h', ρ', s1, s2, s3, s4, s5, s6, s7⟩ := R.bump (w' := setBlock w1 LI0.b (.mapIter (some LM0.b) clock (seen.push e.born) clock)) (o := .inl (LM0.b, clock, seen.push e.born, clock)) a1 (by omega) r.floI a5
      (fun b hb => by show (w1.heap.setIfInBounds LI0.b _)[b]? = _; rw [hw1.1]; exact (heap_set hI').2 b hb) (by show (w1.heap.setIfInBounds LI0.b _).size = _; rw [hw1.1]; simp) hw1.2.1 hw1.2.2.1 hw1.2.2.2
      (by show (w1.heap.setIfInBounds LI0.b _)[LI0.b]? = _; rw [hw1.1]; exact (heap_set hI').1)
    have hI2 : (setBlock w1 LI0.b (.mapIter (some LM0.b) clock (seen.push e.born) clock)).heap[LI0.b]? = some (.mapIter (some LM0.b) clock (seen.push e.born) clock) := by show (w1.heap.setIfInBounds LI0.b _)[LI0.b]? = _; rw [hw1.1]; exact (heap_set hI').1
    have hM2 : (setBlock w1 LI0.b (.mapIter (some LM0.b) clock (seen.push e.born) clock)).heap[LM0.b]? = some (.map es clock) := by
      show (w1.heap.setIfInBounds LI0.b _)[LM0.b]? = _
      rw [hw1.1, (heap_set hI').2 _ fun e => by rw [e, hI'] at hM'; cases hM']; exact hM'
    have hle := s5.1
    refine .inr ⟨k, v, e.key, e.val, h', ρ', _, v1, hk, e3, VRel.up hle _ _ v2, VRel.up hle _ _ v3, run_entry_at _ LI0.b LM0.b clock seen es clock e hI2 hM2 m1 b8.st.2.1, hle _ _ _ a5, s1, s2, s3, s5, s7, ?_⟩
    have gM' : h'.heap.get idm = h.heap.get idm := s2.get idm (R.ids _ _ _ b4) fun e => r.ne e.symm
    refine ⟨⟨_, gI + 1, ⟨LI0.b, LI0.s, bI.size, LI0.cs, some (.inl (LM0.b, clock, seen.push e.born, clock))⟩, LI0, LM0, es, clock, seen.push e.born, visE ++ [e], s4, by show bI.cur + 1 = gI + 1; omega, by show bI.cur + 10 = gI + 1 + 9; omega, by rw [← a2]; exact s6, hle _ _ _ a5, rfl, a7, rfl, hle _ _ _ b4, b5.up hle s2.floor gM', b8.up hle, ?_, ?_, ?_⟩, r.ne, by rw [s2.floor]; exact r.floI, r.nod, ?_⟩
    · rw [toP_app]; exact (b9.up hle).snoc (VRel.up hle _ _ v2) (VRel.up hle _ _ v3)
    · rw [Array.toList_push, c1, List.map_append]; rfl
    · intro x hx
      rcases List.mem_append.1 hx with hx | hx
      · exact c2 x hx
      · rw [List.mem_singleton] at hx; rw [hx]; exact m1
    · refine ⟨fun p hp => ?_, ?_⟩
      · rcases List.mem_append.1 hp with hp | hp
        · exact r.vis.1 p hp
        · rw [List.mem_singleton] at hp; rw [hp]; exact v1
      · have : keysE (vis ++ [(k, v)]) = keysE vis ++ [k] := by simp [keysE]
        rw [this, List.nodup_append]
        exact ⟨r.vis.2, by simp, fun a ha b hb e => hk (by rw [List.mem_singleton] at hb; rw [← hb, ← e]; exact ha)⟩
end
theorem F2.last {ρ : Emb} {k v : V} : ∀ {ps : List (V × V)} {l : List MapEntry}, F2 ρ (ps ++ [(k, v)]) l → ∃ l' e, l = l' ++ [e] ∧ VRel ρ k e.key ∧ VRel ρ v e.val := by
  intro ps
  induction ps with
  | nil =>
    intro l f
    cases f with
    | cons a b c => cases c; exact ⟨[], _, rfl, a, b⟩
  | cons p r ih =>
    intro l f
    cases f with
    | cons a b c =>
      obtain ⟨l', e, e1, e2, e3⟩ := ih c
      exact ⟨_ :: l', e, by rw [e1]; rfl, e2, e3⟩
/-- the entry that the iterator is at -/
theorem Rng.entry {P : Program} {pin : Bool} {ρ : Emb} {h : H} {w w0 : World} {idm idI : B} {E vis : En} {k : List UInt8} {v : V} (r : Rng pin ρ h w0 idm idI E (vis ++ [(k, v)])) (R : HRel ρ h w w0) :
    ∃ LI0 kx vx, ρ idI 0 = some LI0 ∧ LI0.s = 0 ∧ (Instr.entry (.pointer (some ⟨LI0.b, 0, none⟩))).run P w = .ok (.tuple #[kx, vx]) w ∧ VRel ρ (sv k) kx ∧ VRel ρ v vx := by
  obtain ⟨bI, gI, LI, LI0, LM0, es, clock, seen, visE, a1, a2, a3, a4, a5, a6, a7, a8, b4, b5, b8, b9, c1, c2⟩ := r.ok
  have hI := R.ito idI gI LI bI _ a4 a1 a2 (by omega) a8
  have hM' := b5.get R
  rw [toP_app] at b9
  obtain ⟨l', e, rfl, e2, e3⟩ := b9.last
  have hs : seen = (l'.map (·.born)).toArray.push e.born := by
    apply Array.ext'
    rw [c1]; simp
  have hI' : w.heap[LI0.b]? = some (.mapIter (some LM0.b) clock ((l'.map (·.born)).toArray.push e.born) clock) := by rw [← hs, ← a6]; exact hI
  exact ⟨LI0, e.key, e.val, a5, a7, run_entry_at w LI0.b LM0.b clock _ es clock e hI' hM' (c2 e (by simp)) b8.st.2.1, e2, e3⟩
theorem wpOps_first {P : Program} {ops : Array Oper} {Q : Exit → Act → World → Prop} {n : Nat} {o : Oper} {rest : List Oper} {a : Act} {w w' : World} {v : Value} (hd : ops.toList.drop n = o :: rest) (hg : o.guard = none)
    (hr : (execOp a.eval o).run P w = .ok (.value v) w') (hk : wpOps P ops Q (List.range' (n + 1) rest.length) (a.put o.dst v) w') : wpOps P ops Q (List.range' n (rest.length + 1)) a w := by
  have hn : ops[n]? = some o := by
    have : ops.toList[n]? = some o := by
      have := congrArg (fun l => l[0]?) hd
      simpa using this
    simpa using this
  rw [List.range'_succ, wpOps_cons]
  unfold wpOp
  simp only [hn, wanted_none hg, if_true]
  refine .inl ?_
  unfold Oper.wp
  rw [hr]; exact hk
theorem exec_range {P : Program} {f : Operand → Value} {o : Oper} {T0 : TypeId} {m : Operand} {w w' : World} {x : Value} (ho : o.op = .range T0 m) (h : (Instr.range T0 (f m)).run P w = .ok x w') : (execOp f o).run P w = .ok (.value x) w' := by
  unfold execOp
  simp only [ho, Sem.run_bind, h, Result.andThen_ok]; rfl
theorem exec_next {P : Program} {f : Operand → Value} {o : Oper} {m : Operand} {w w' : World} {x : Value} (ho : o.op = .next m false) (h : (Instr.next (f m) false o.type).run P w = .ok x w') : (execOp f o).run P w = .ok (.value x) w' := by
  unfold execOp
  simp only [ho, Sem.run_bind, h, Result.andThen_ok]; rfl
theorem exec_entry {P : Program} {f : Operand → Value} {o : Oper} {m : Operand} {w w' : World} {x : Value} (ho : o.op = .entry m) (h : (Instr.entry (f m)).run P w = .ok x w') : (execOp f o).run P w = .ok (.value x) w' := by
  unfold execOp
  simp only [ho, Sem.run_bind, h, Result.andThen_ok]; rfl
theorem nodup_len {a b : List (List UInt8)} (hn : a.Nodup) (hs : ∀ x ∈ a, x ∈ b) : a.length ≤ b.length := by
  induction a generalizing b with
  | nil => exact Nat.zero_le _
  | cons x r ih =>
    have hx := List.nodup_cons.1 hn
    have hb : x ∈ b := hs x (List.mem_cons_self ..)
    have := ih (b := b.erase x) hx.2 fun y hy => (List.mem_erase_of_ne fun e => hx.1 (by rw [← e]; exact hy)).2 (hs y (List.mem_cons_of_mem _ hy))
    rw [List.length_erase_of_mem hb] at this
    have := List.length_pos_of_mem hb
    simp only [List.length_cons]; omega
theorem VisOk.len {E vis : En} (h : VisOk E vis) : vis.length ≤ E.length := by
  have := nodup_len h.2 (b := keysE E) fun x hx => by
    obtain ⟨p, h1, rfl⟩ := List.mem_map.1 hx
    exact List.mem_map.2 ⟨p, h.1 p h1, rfl⟩
  rwa [keysE_len, keysE_len] at this
/-- behind a round -/
def AfterR (out nxt : Nat) (I : F → H → Prop) (Kb : X → F → H → Prop) : X → F → H → Prop
  | .normal, t, g => I t g
  | .ret, t, g => Kb .ret t g
  | .exit j, t, g => if j = nxt then I t g else if j = out then Kb .normal t g else Kb (.exit j) t g
/-- all but the map and its iterator -/
def offR (idm idI : B) : B → Prop := fun i => i ≠ idm ∧ i ≠ idI
def xoR (out : Nat) : X → Exit
  | .normal => .exit out
  | .exit j => .exit j
  | .ret => .ret
/-- what is to be shown of a range's body -/
structure RngSpec (P : Program) (nt it : Nat) (cX : List CO) (more : Operand) (out nxt nx pr : Nat) (crest : List CO) (cb : Sh) (idm : B) (E : En) (Inv : B → En → F → H → Prop) (Kb : X → F → H → Prop) : Prop where
  hit : ∀ {idI vis t g}, Inv idI vis t g → get it t = .p idI 0 0 0
  turn : ∀ {idI vis t g g'}, Inv idI vis t g → Stay (fun i => i = idI) g g' → g'.next = g.next → Inv idI vis t g'
  stop : ∀ {idI vis t g}, Inv idI vis t g → VisOk E vis → (∀ p ∈ E, p ∈ vis) → WO P cX (put nx (.tu [.b false]) t) g fun t' g' => oV (compO more) t' = .b false ∧ Stay (offR idm idI) g g' ∧ Kb .normal t' g'
  each : ∀ {idI vis t g k v}, Inv idI vis t g → VisOk E vis → (k, v) ∈ E → k ∉ keysE vis →
    WO P cX (put nx (.tu [.b true, sv k, v]) t) g fun t2 g2 => oV (compO more) t2 = .b true ∧ get it t2 = .p idI 0 0 0 ∧ Stay (offR idm idI) g g2 ∧
      WO P crest (put pr (.tu [sv k, v]) t2) g2 fun t3 g3 => Stay (offR idm idI) g2 g3 ∧
        OkS P nt cb t3 g3 fun x t' g' => Stay (offR idm idI) g3 g' ∧ AfterR out nxt (Inv idI (vis ++ [(k, v)])) Kb x t' g'
theorem Rng.lts {pin : Bool} {ρ : Emb} {h : H} {w w0 : World} {idm idI : B} {E vis : En} (r : Rng pin ρ h w0 idm idI E vis) (R : HRel ρ h w w0) : B.val idm < B.val h.next ∧ B.val idI < B.val h.next := by
  obtain ⟨bI, gI, LI, LI0, LM0, es, clock, seen, visE, a1, a2, a3, a4, a5, a6, a7, a8, b4, _⟩ := r.ok
  exact ⟨R.ids _ _ _ b4, R.ids _ _ _ a5⟩
theorem Rng.off {pin : Bool} {ρ ρ' : Emb} {h h' : H} {w w0 : World} {idm idI : B} {E vis : En} (r : Rng pin ρ h w0 idm idI E vis) (R : HRel ρ h w w0) (hle : ρ.le ρ') (s : Stay (offR idm idI) h h') : Rng pin ρ' h' w0 idm idI E vis := by
  obtain ⟨l1, l2⟩ := r.lts R
  exact r.next hle s.floor (s.get idI l2 fun e => e.2 rfl) (s.get idm l1 fun e => e.1 rfl)
section
variable {P : Program} {nt : Nat} {it : Nat} {cX : List CO} {more : Operand} {out nxt : Nat} {nx pr : Nat} {crest : List CO} {cb : Sh} {idm : B} {E : En} {Inv : B → En → F → H → Prop} {Kb : X → F → H → Prop}
theorem RngSpec.loop (S : RngSpec P nt it cX more out nxt nx pr crest cb idm E Inv Kb) {id1 id2 nb : Nat} {ns : List Nat} {ops1 ops2 : Array Oper} {body : Code} {oN oE : Oper} {restN restE : List Oper}
    (n1 : ops1.toList = oN :: restN) (n2 : oN.op = .next (.tmp it) false) (n3 : oN.dst = some nx) (n4 : oN.guard = none) (n5 : cX = compOpsWith (fun _ => true) P nt ops1.toList (compOp P) 1 restN)
    (m1 : ops2.toList = oE :: restE) (m2 : oE.op = .entry (.tmp it)) (m3 : oE.dst = some pr) (m4 : oE.guard = none) (m5 : crest = compOpsWith (fun _ => true) P nt ops2.toList (compOp P) 1 restE) (hb : shOf P ns nt nb body = cb)
    (itl : it < 512) (nxl : nx < nt ∧ nx < 512) (prl : pr < nt ∧ pr < 512) {pin : Bool} {idI : B} {QQ : Exit → Act → World → Prop} {w0 : World} :
    ∀ (n : Nat) (vis : En) (t : F) (g : H) (ρ : Emb) (a : Act) (w : World), E.length - vis.length = n → Inv idI vis t g → Rng pin ρ g w0 idm idI E vis → Dn ρ g w0 → ARel ρ nt t a → HRel ρ g w w0 →
      (∀ x t' g' ρ' a' w' vis', Kb x t' g' → x ≠ .exit out → Rng pin ρ' g' w0 idm idI E vis' → KeepF g g' → B.val g.next ≤ B.val g'.next → Ext g.floor ρ ρ' → ARel ρ' nt t' a' → HRel ρ' g' w' w0 → QQ (xoR out x) a' w') →
      LoopArr P (.seq (.region id1 ops1 false) (.seq (.cond more .skip (.exit out)) (.block nxt (.seq (.region id2 ops2 false) body)))) QQ a w := by
  intro n
  induction n using Nat.strongRecOn with
  | _ n ih =>
    intro vis t g ρ a w hn hI r D A R hQ
    refine loopArr_of (wp_seq (wp_region ?_))
    have hsz : List.range ops1.size = List.range' 0 (restN.length + 1) := by
      have h1 : ops1.size = restN.length + 1 := by have := congrArg List.length n1; simpa using this
      rw [List.range_eq_range', h1]
    have hsz2 : List.range ops2.size = List.range' 0 (restE.length + 1) := by
      have h1 : ops2.size = restE.length + 1 := by have := congrArg List.length m1; simpa using this
      rw [List.range_eq_range', h1]
    rw [hsz]
    obtain ⟨LI0, hL, hs0, hstep⟩ := r.step (P := P) R oN.type
    have hp := tmp_ptr A itl (S.hit hI) hL hs0
    rcases hstep with ⟨hall, hrun⟩ | ⟨k, v, kx, vx, g1, ρ1, w1, hin, hk, hrun, v1, v2, _, hL1, kf, st, hnx, ex, R1, r1⟩
    · obtain ⟨t', g', o1, o2, o3, o4⟩ := S.stop hI r.vis hall
      refine wpOps_first (by rw [n1]; rfl) n4 (exec_next n2 (by rw [hp]; exact hrun)) ?_
      have A1 : ARel ρ nt (put nx (.tu [.b false]) t) (a.put oN.dst (.tuple #[.bool false])) := by rw [n3]; exact arel_put A ⟨_, rfl, rfl, trivial⟩ nxl.1 nxl.2
      rw [n5] at o1
      obtain ⟨k1, k2, k3⟩ := opsRel_ok (fun _ => true) restN 1 (by rw [n1]; rfl) _ _ _ _ o1
      refine k3 ρ _ w w0 _ A1 R fun ρ2 a2 w2 l2 A2 R2 => ?_
      have hm : a2.eval more = .bool false := by have := opnd_rel A2 more; rw [o2] at this; exact this
      refine wp_seq (wp_cond_false hm (wp_exit ?_))
      exact hQ .normal t' g' ρ2 a2 w2 vis o4 (fun h => by cases h) (r.off R l2.1 o3) k1 k2 l2 A2 R2
    · obtain ⟨t2, g2, o1, o2, o3, o4, t3, g3, o5, o6, o7⟩ := S.each (S.turn hI st hnx) r.vis hin hk
      refine wpOps_first (by rw [n1]; rfl) n4 (exec_next n2 (by rw [hp]; exact hrun)) ?_
      have A1 : ARel ρ1 nt (put nx (.tu [.b true, sv k, v]) t) (a.put oN.dst (.tuple #[.bool true, kx, vx])) := by rw [n3]; exact arel_put (A.up ex.1) ⟨_, rfl, rfl, v1, v2, trivial⟩ nxl.1 nxl.2
      rw [n5] at o1
      obtain ⟨k1, k2, k3⟩ := opsRel_ok (fun _ => true) restN 1 (by rw [n1]; rfl) _ _ _ _ o1
      refine k3 ρ1 _ w1 w0 _ A1 R1 fun ρ2 a2 w2 l2 A2 R2 => ?_
      have r2 : Rng pin ρ2 g2 w0 idm idI E (vis ++ [(k, v)]) := r1.off R1 l2.1 o4
      have hm : a2.eval more = .bool true := by have := opnd_rel A2 more; rw [o2] at this; exact this
      refine wp_seq (wp_cond_true hm (wp_skip ?_))
      refine wp_block (wp_seq (wp_region ?_))
      rw [hsz2]
      obtain ⟨LI2, kx2, vx2, hL2, hs2, hent2, u1, u2⟩ := r2.entry (P := P) R2
      have hp2 := tmp_ptr A2 itl o3 hL2 hs2
      refine wpOps_first (by rw [m1]; rfl) m4 (exec_entry m2 (by rw [hp2]; exact hent2)) ?_
      have A3 : ARel ρ2 nt (put pr (.tu [sv k, v]) t2) (a2.put oE.dst (.tuple #[kx2, vx2])) := by rw [m3]; exact arel_put A2 ⟨_, rfl, u1, u2, trivial⟩ prl.1 prl.2
      rw [m5] at o5
      obtain ⟨i1, i2, i3⟩ := opsRel_ok (fun _ => true) restE 1 (by rw [m1]; rfl) _ _ _ _ o5
      refine i3 ρ2 _ w2 w0 _ A3 R2 fun ρ4 a4 w4 l4 A4 R4 => ?_
      have r4 : Rng pin ρ4 g3 w0 idm idI E (vis ++ [(k, v)]) := r2.off R2 l4.1 o6
      have D1 : Dn ρ1 g1 w0 := D.up kf.1 ex
      have D2 : Dn ρ2 g2 w0 := D1.up k1.1 l2
      have D4 : Dn ρ4 g3 w0 := D2.up i1.1 l4
      refine o7 ns nb body hb ρ4 a4 w4 w0 _ D4 A4 R4 fun x t5 g5 ρ5 a5 w5 ⟨p1, p2⟩ j1 j2 j3 A5 R5 => ?_
      have r5 : Rng pin ρ5 g5 w0 idm idI E (vis ++ [(k, v)]) := r4.off R4 j3.1 p1
      have nn1 : B.val g.next ≤ B.val g1.next := by rw [hnx]; exact Nat.le_refl _
      have nn2 := Nat.le_trans nn1 k2
      have nn3 := Nat.le_trans nn2 i2
      have nn5 := Nat.le_trans nn3 j2
      have f1 : g1.floor = g.floor := kf.1
      have f2 : g2.floor = g.floor := k1.1.trans f1
      have f3 : g3.floor = g.floor := i1.1.trans f2
      have f5 : g5.floor = g.floor := j1.1.trans f3
      have kf5 : KeepF g g5 := KeepF.trans (KeepF.trans (KeepF.trans kf nn1 k1) nn2 i1) nn3 j1
      have ex5 : Ext g.floor ρ ρ5 := ((ex.trans (by rw [← f1]; exact l2)).trans (by rw [← f2]; exact l4)).trans (by rw [← f3]; exact j3)
      have again : Inv idI (vis ++ [(k, v)]) t5 g5 → LoopArr P (.seq (.region id1 ops1 false) (.seq (.cond more .skip (.exit out)) (.block nxt (.seq (.region id2 ops2 false) body)))) QQ a5 w5 := fun hI5 =>
        ih (E.length - (vis.length + 1)) (by have := r5.vis.len; simp at this; omega) (vis ++ [(k, v)]) t5 g5 ρ5 a5 w5 (by simp) hI5 r5 (D4.up j1.1 j3) A5 R5
          fun x t' g' ρ' a' w' vis' q1 q2 q3 q4 q5 q6 q7 q8 => hQ x t' g' ρ' a' w' vis' q1 q2 q3 (KeepF.trans kf5 nn5 q4) (Nat.le_trans nn5 q5) (ex5.trans (by rw [← f5]; exact q6)) q7 q8
      have leave : ∀ x, Kb x t5 g5 → x ≠ .exit out → QQ (xoR out x) a5 w5 := fun x hx hxo => hQ x t5 g5 ρ5 a5 w5 _ hx hxo r5 kf5 nn5 ex5 A5 R5
      cases x with
      | normal => exact again p2
      | ret => exact leave .ret p2 (fun h => by cases h)
      | exit j =>
        have p2' : if j = nxt then Inv idI (vis ++ [(k, v)]) t5 g5 else if j = out then Kb .normal t5 g5 else Kb (.exit j) t5 g5 := p2
        show (if j = nxt then LoopArr P _ QQ a5 w5 else QQ (.exit j) a5 w5)
        by_cases e1 : j = nxt
        · rw [if_pos e1] at p2' ⊢; exact again p2'
        · rw [if_neg e1] at p2' ⊢
          by_cases e2 : j = out
          · rw [if_pos e2] at p2'; rw [e2]; exact leave .normal p2' (fun h => by cases h)
          · rw [if_neg e2] at p2'; exact leave (.exit j) p2' (fun h => by cases h; exact e2 rfl)
variable {c : Code} {cpre : List CO} {m : Operand} {K : X → F → H → Prop} {t t1 : F} {h h1 : H}
/-- 'for k, v := range m' -/
theorem CodeN.range (S : RngShape P nt c cpre m it cX more out nxt nx pr crest cb) (hpre : OpsRel P cpre t h t1 h1) (hm : oV (compO m) t1 = .m idm) (hM : MapC h1 idm E)
    (start : ∀ g, Stay (fun i => i = idm) h1 g → B.val g.next = B.val h1.next + 1 → Inv h1.next [] (put it (.p h1.next 0 0 0) t1) g)
    (spec : RngSpec P nt it cX more out nxt nx pr crest cb idm E Inv Kb)
    (fin : ∀ x t' g g', Kb x t' g → x ≠ .exit out → Stay (fun i => i = idm) g g' → g'.next = g.next → MapC g' idm E → K x t' g') : CodeN P nt c t h K := by
  obtain ⟨id0, ops0, id1, ops1, id2, ops2, body, rfl, ⟨pre, oR, T0, kt, et, p1, p2, p3, p4, p5, p6⟩, ⟨oN, restN, n1, n2, n3, n4, n5⟩, ⟨oE, restE, m1, m2, m3, m4, m5⟩, ns, nb, hb⟩ := S.ok
  intro ρ a w w0 Q D A R hQ
  refine wp_seq (wp_region ?_)
  have hsz : List.range ops0.size = List.range' 0 (pre.length + [oR].length) := by
    have h1 : ops0.size = pre.length + 1 := by have := congrArg List.length p1; simpa using this
    rw [List.range_eq_range', h1]; rfl
  rw [hsz]
  rw [p6] at hpre
  obtain ⟨k1, k2, k3⟩ := opsRel_pre (fun _ => true) [oR] pre 0 (by rw [p1]; rfl) _ _ _ _ hpre
  refine k3 ρ a w w0 _ A R fun ρ1 a1 w1 l1 A1 R1 => ?_
  have hmv := opnd_rel A1 m
  rw [hm] at hmv
  obtain ⟨L0, hL0, hev⟩ := hmv
  obtain ⟨bm, b1, b2, b3⟩ := hM.blk
  obtain ⟨es, clock, e1, ps, q1, q2⟩ := R1.mp idm L0 bm hL0 b1 b2
  have hps : ps = toP E := q1.uniq b3
  subst hps
  obtain ⟨h2, ρ2, s1, s2, s3, s4, s5, s6, s7⟩ := R1.bump (w' := w1) (o := .inr (es, clock)) b1 (by omega) hM.flo hL0 (fun _ _ => rfl) rfl rfl rfl rfl e1
  obtain ⟨h3, ρ3, u1, u2, u3, u4, u5, u6, u7⟩ := s7.newIt (L0.b, clock, #[], clock)
  have hrun := run_range_map (P := P) w1 T0 kt et L0.b es clock p5 e1
  refine wpOps_first (rest := []) (by rw [p1]; simp) p4 (exec_range p2 (by rw [hev]; exact hrun)) ?_
  have A3 : ARel ρ3 nt (put it (.p h1.next 0 0 0) t1) (a1.put oR.dst (.pointer (some ⟨w1.heap.size, 0, none⟩))) := by
    rw [p3]; exact arel_put (A1.up (Emb.le_trans s5.1 u5.1)) ⟨_, by rw [← s3]; exact u6, rfl, Nat.le_refl _, Nat.le_refl _⟩ S.itl.1 S.itl.2
  have hne : h1.next ≠ idm := fun e => by have := hM.lt; rw [e] at this; exact absurd this (Nat.lt_irrefl _)
  have f2 : h2.floor = h1.floor := s1.1
  have f3 : h3.floor = h1.floor := u1.1.trans f2
  have st3 : Stay (fun i => i = idm) h1 h3 := s2.trans (u2.mono fun _ _ h => h.elim)
  have hlt2 : B.val idm < B.val h2.next := by rw [s3]; exact hM.lt
  have r0 : Rng true ρ3 h3 w0 idm h1.next E [] := by
    refine ⟨⟨_, 0, _, _, L0, es, clock, #[], [], by rw [← s3]; exact u4, rfl, rfl, by rw [← s3]; exact u6, by rw [← s3]; exact u6, rfl, rfl, rfl, u5.1 _ _ _ (s5.1 _ _ _ hL0), ⟨_, bm.cur + 1, _, (u2.get idm hlt2 fun h => h).trans s4, rfl, by show bm.cur + 10 = bm.cur + 1 + 9; omega, u5.1 _ _ _ s6, rfl, rfl, b3, by rw [f3]; exact hM.flo⟩, (q2.up s5.1).up u5.1, .nil, rfl, by intro e he; cases he⟩, hne, ?_, hM.nod, ⟨(by intro p hp; cases hp), List.nodup_nil⟩⟩
    rw [f3]; exact R1.flo
  have D3 : Dn ρ3 h3 w0 := ((D.up k1.1 l1).up s1.1 s5).up u1.1 u5
  refine wp_block (wp_loop_of ?_)
  refine RngSpec.loop spec n1 n2 n3 n4 n5 m1 m2 m3 m4 m5 hb S.itl.2 S.nxl S.prl _ [] _ h3 ρ3 _ _ rfl (start h3 st3 (by rw [u3, s3])) r0 D3 A3 u7 fun x t' g' ρ' a' w' vis' y1 y2 y3 y4 y5 y6 y7 y8 => ?_
  obtain ⟨bI, gI, LI, LI0, LM0, es', clock', seen, visE, c1, c2, c3, c4, c5, c6, c7, c8, d4, dx, d8, _⟩ := y3.ok
  have hMn := dx.get y8
  obtain ⟨bM, gM, LM, x1, x2, x3, x4, x5, x6, d7, x8⟩ := dx
  obtain ⟨h', z1, z2, z3, z4, z5⟩ := y8.unpin x1 (by omega) x8 d4 hMn d7 d8
  have hK := fin x t' g' h' y1 y2 z2 z3 ⟨⟨_, z4, rfl, d7⟩, by rw [z2.floor]; exact x8, by rw [z3]; exact y8.ids _ _ _ d4, y3.nod⟩
  have nn1 := k2
  have nn2 : B.val h.next ≤ B.val h2.next := by rw [s3]; exact k2
  have nn3 : B.val h.next ≤ B.val h3.next := by rw [u3]; omega
  have nn4 := Nat.le_trans nn3 y5
  have f1 : h1.floor = h.floor := k1.1
  have kf : KeepF h h' := KeepF.trans (KeepF.trans (KeepF.trans (KeepF.trans k1 nn1 s1) nn2 u1) nn3 y4) nn4 z1
  have ex : Ext h.floor ρ ρ' := ((l1.trans (by rw [← f1]; exact s5)).trans (by rw [← f1, ← f2]; exact u5)).trans (by rw [← f1, ← f3]; exact y6)
  have nn5 : B.val h.next ≤ B.val h'.next := by rw [z3]; exact nn4
  cases x with
  | normal =>
    show (if out = out then Q .normal a' w' else Q (.exit out) a' w')
    rw [if_pos rfl]
    exact hQ .normal t' h' ρ' a' w' hK kf nn5 ex y7 z5
  | ret => exact hQ .ret t' h' ρ' a' w' hK kf nn5 ex y7 z5
  | exit j =>
    show (if j = out then Q .normal a' w' else Q (.exit j) a' w')
    rw [if_neg fun e => y2 (by rw [e])]
    exact hQ (.exit j) t' h' ρ' a' w' hK kf nn5 ex y7 z5
/-- what is known of a map below the floor -/
structure MapF (h : H) (id : B) (E : En) : Prop where
  blk : ∃ b, h.heap.get id = some b ∧ b.min = b.cur + 7 ∧ RdP b.cells b.el (toP E)
  lo : B.val id < B.val h.floor
  nod : (keysE E).Nodup
/-- .. of a map that was there ahead of all -/
theorem CodeN.rangeF (S : RngShape P nt c cpre m it cX more out nxt nx pr crest cb) (hpre : OpsRel P cpre t h t1 h1) (hm : oV (compO m) t1 = .m idm) (hM : MapF h1 idm E)
    (start : ∀ g, Stay nowhere h1 g → B.val g.next = B.val h1.next + 1 → Inv h1.next [] (put it (.p h1.next 0 0 0) t1) g)
    (spec : RngSpec P nt it cX more out nxt nx pr crest cb idm E Inv Kb)
    (fin : ∀ x t' g, Kb x t' g → x ≠ .exit out → K x t' g) : CodeN P nt c t h K := by
  obtain ⟨id0, ops0, id1, ops1, id2, ops2, body, rfl, ⟨pre, oR, T0, kt, et, p1, p2, p3, p4, p5, p6⟩, ⟨oN, restN, n1, n2, n3, n4, n5⟩, ⟨oE, restE, m1, m2, m3, m4, m5⟩, ns, nb, hb⟩ := S.ok
  intro ρ a w w0 Q D A R hQ
  refine wp_seq (wp_region ?_)
  have hsz : List.range ops0.size = List.range' 0 (pre.length + [oR].length) := by
    have h1 : ops0.size = pre.length + 1 := by have := congrArg List.length p1; simpa using this
    rw [List.range_eq_range', h1]; rfl
  rw [hsz]
  rw [p6] at hpre
  obtain ⟨k1, k2, k3⟩ := opsRel_pre (fun _ => true) [oR] pre 0 (by rw [p1]; rfl) _ _ _ _ hpre
  refine k3 ρ a w w0 _ A R fun ρ1 a1 w1 l1 A1 R1 => ?_
  have D1 : Dn ρ1 h1 w0 := D.up k1.1 l1
  have hmv := opnd_rel A1 m
  rw [hm] at hmv
  obtain ⟨L0, hL0, hev⟩ := hmv
  obtain ⟨bm, b1, b2, b3⟩ := hM.blk
  obtain ⟨es, clock, e1, ps, q1, q2⟩ := R1.mp idm L0 bm hL0 b1 b2
  have hps : ps = toP E := q1.uniq b3
  subst hps
  have hold := D1 _ _ _ hM.lo hL0
  obtain ⟨h3, ρ3, u1, u2, u3, u4, u5, u6, u7⟩ := R1.newIt (L0.b, clock, #[], clock)
  have hrun := run_range_map (P := P) w1 T0 kt et L0.b es clock p5 e1
  refine wpOps_first (rest := []) (by rw [p1]; simp) p4 (exec_range p2 (by rw [hev]; exact hrun)) ?_
  have A3 : ARel ρ3 nt (put it (.p h1.next 0 0 0) t1) (a1.put oR.dst (.pointer (some ⟨w1.heap.size, 0, none⟩))) := by
    rw [p3]; exact arel_put (A1.up u5.1) ⟨_, u6, rfl, Nat.le_refl _, Nat.le_refl _⟩ S.itl.1 S.itl.2
  have hne : h1.next ≠ idm := fun e => by have h1' := hM.lo; have h2' := R1.flo; rw [e] at h2'; exact absurd h1' (Nat.not_lt.2 h2')
  have f3 : h3.floor = h1.floor := u1.1
  have r0 : Rng false ρ3 h3 w0 idm h1.next E [] := by
    refine ⟨⟨_, 0, _, _, L0, es, clock, #[], [], u4, rfl, rfl, u6, u6, rfl, rfl, rfl, u5.1 _ _ _ hL0, ⟨hold, (R1.old _ hold).symm.trans e1⟩, q2.up u5.1, .nil, rfl, by intro e he; cases he⟩, hne, ?_, hM.nod, ⟨(by intro p hp; cases hp), List.nodup_nil⟩⟩
    rw [f3]; exact R1.flo
  refine wp_block (wp_loop_of ?_)
  refine RngSpec.loop spec n1 n2 n3 n4 n5 m1 m2 m3 m4 m5 hb S.itl.2 S.nxl S.prl _ [] _ h3 ρ3 _ _ rfl (start h3 u2 u3) r0 (D1.up u1.1 u5) A3 u7 fun x t' g' ρ' a' w' vis' y1 y2 y3 y4 y5 y6 y7 y8 => ?_
  have hK := fin x t' g' y1 y2
  have nn3 : B.val h.next ≤ B.val h3.next := by rw [u3]; omega
  have f1 : h1.floor = h.floor := k1.1
  have kf : KeepF h g' := KeepF.trans (KeepF.trans k1 k2 u1) nn3 y4
  have ex : Ext h.floor ρ ρ' := (l1.trans (by rw [← f1]; exact u5)).trans (by rw [← f1, ← f3]; exact y6)
  have nn5 : B.val h.next ≤ B.val g'.next := Nat.le_trans nn3 y5
  cases x with
  | normal =>
    show (if out = out then Q .normal a' w' else Q (.exit out) a' w')
    rw [if_pos rfl]
    exact hQ .normal t' g' ρ' a' w' hK kf nn5 ex y7 y8
  | ret => exact hQ .ret t' g' ρ' a' w' hK kf nn5 ex y7 y8
  | exit j =>
    show (if j = out then Q .normal a' w' else Q (.exit j) a' w')
    rw [if_neg fun e => y2 (by rw [e])]
    exact hQ (.exit j) t' g' ρ' a' w' hK kf nn5 ex y7 y8
/-- .. of no map -/
theorem CodeN.range0 (S : RngShape P nt c cpre m it cX more out nxt nx pr crest cb) (hpre : OpsRel P cpre t h t1 h1) (hm : oV (compO m) t1 = .m0)
    (stop : WO P cX (put nx (.tu [.b false]) (put it .u t1)) h1 fun t' g' => oV (compO more) t' = .b false ∧ K .normal t' g') : CodeN P nt c t h K := by
  obtain ⟨id0, ops0, id1, ops1, id2, ops2, body, rfl, ⟨pre, oR, T0, kt, et, p1, p2, p3, p4, p5, p6⟩, ⟨oN, restN, n1, n2, n3, n4, n5⟩, _, _, _⟩ := S.ok
  intro ρ a w w0 Q D A R hQ
  refine wp_seq (wp_region ?_)
  have hsz : List.range ops0.size = List.range' 0 (pre.length + [oR].length) := by
    have h1 : ops0.size = pre.length + 1 := by have := congrArg List.length p1; simpa using this
    rw [List.range_eq_range', h1]; rfl
  rw [hsz]
  rw [p6] at hpre
  obtain ⟨k1, k2, k3⟩ := opsRel_pre (fun _ => true) [oR] pre 0 (by rw [p1]; rfl) _ _ _ _ hpre
  refine k3 ρ a w w0 _ A R fun ρ1 a1 w1 l1 A1 R1 => ?_
  have hev := opnd_rel A1 m
  rw [hm] at hev
  have hev : a1.eval m = .map none := hev
  refine wpOps_first (rest := []) (by rw [p1]; simp) p4 (exec_range p2 (by rw [hev]; exact run_range_nilMap w1 T0 kt et p5)) ?_
  have A3 : ARel ρ1 nt (put it .u t1) (a1.put oR.dst (.pointer (some ⟨w1.heap.size, 0, none⟩))) := by rw [p3]; exact arel_put A1 trivial S.itl.1 S.itl.2
  have R3 : HRel ρ1 h1 (w1.alloc (.mapIter none 0 #[] 0)) w0 := R1.grow (fun b hb => alloc_get_old _ _ hb) (by rw [alloc_size]; exact Nat.le_succ _) rfl rfl rfl
  have hp : (a1.put oR.dst (.pointer (some ⟨w1.heap.size, 0, none⟩))).eval (.tmp it) = .pointer (some ⟨w1.heap.size, 0, none⟩) := by
    rw [p3]
    show (a1.tmps.setIfInBounds it _).getD it undef = _
    have : it < a1.tmps.size := by rw [A1.size]; exact S.itl.1
    simp [Array.getD_eq_getD_getElem?, this]
  refine wp_block (wp_loop_of (loopArr_of (wp_seq (wp_region ?_))))
  have hsz1 : List.range ops1.size = List.range' 0 (restN.length + 1) := by
    have h1 : ops1.size = restN.length + 1 := by have := congrArg List.length n1; simpa using this
    rw [List.range_eq_range', h1]
  rw [hsz1]
  obtain ⟨t', g', o1, o2, o3⟩ := stop
  refine wpOps_first (by rw [n1]; rfl) n4 (exec_next n2 (by rw [hp]; exact run_next_nilMap w1 oN.type 0 0 #[])) ?_
  have A4 := arel_put (v := .tu [.b false]) (x := .tuple #[.bool false]) A3 ⟨_, rfl, rfl, trivial⟩ S.nxl.1 S.nxl.2
  rw [← n3] at A4
  rw [n5] at o1
  obtain ⟨j1, j2, j3⟩ := opsRel_ok (fun _ => true) restN 1 (by rw [n1]; rfl) _ _ _ _ o1
  refine j3 ρ1 _ _ w0 _ A4 R3 fun ρ2 a2 w2 l2 A2 R2 => ?_
  have hmo : a2.eval more = .bool false := by have := opnd_rel A2 more; rw [o2] at this; exact this
  refine wp_seq (wp_cond_false hmo (wp_exit ?_))
  show (if out = out then Q .normal a2 w2 else Q (.exit out) a2 w2)
  rw [if_pos rfl]
  exact hQ .normal t' g' ρ2 a2 w2 o3 (KeepF.trans k1 k2 j1) (Nat.le_trans k2 j2) (l1.trans (by rw [← k1.1]; exact l2)) A2 R2
end
theorem rgTry_ok {P : Program} {ns : List Nat} {nt nb : Nat} {c body : Code} {r : RgP} {cb : Sh} (h : rgTry P nt c = some (r, body)) (hb : shOf P ns nt nb body = cb) : RngShape P nt c r.cpre r.m r.it r.cX r.more r.out r.nxt r.nx r.pr r.crest cb := by
  unfold rgTry at h
  obtain ⟨⟨o0, o1, o2, more, out, out2, nxt, body'⟩, h1, h⟩ := Option.bind_eq_some_iff.1 h
  obtain ⟨⟨pre, oR⟩, h2, h⟩ := Option.bind_eq_some_iff.1 h
  obtain ⟨⟨T, m, it⟩, h3, h⟩ := Option.bind_eq_some_iff.1 h
  obtain ⟨⟨oN, restN⟩, h4, h⟩ := Option.bind_eq_some_iff.1 h
  obtain ⟨⟨it1, nx⟩, h5, h⟩ := Option.bind_eq_some_iff.1 h
  obtain ⟨⟨oE, restE⟩, h6, h⟩ := Option.bind_eq_some_iff.1 h
  obtain ⟨⟨it2, pr⟩, h7, h⟩ := Option.bind_eq_some_iff.1 h
  simp only at h
  split at h
  · rename_i hc
    cases h
    simp only [Bool.and_eq_true] at hc
    obtain ⟨⟨⟨⟨⟨⟨c1, c2⟩, c3⟩, c4⟩, c5⟩, c6⟩, c7⟩ := hc
    obtain rfl := Nat.eq_of_beq_eq_true c2
    obtain rfl := Nat.eq_of_beq_eq_true c3
    obtain rfl := Nat.eq_of_beq_eq_true c4
    obtain ⟨kt, et, hT⟩ := rgMap_ok c1
    obtain ⟨id0, id1, id2, rfl⟩ := rgCode_ok h1
    obtain ⟨a1, a2, a3⟩ := rgHead_ok h3
    obtain ⟨b1, b2, b3⟩ := rgNext_ok h5
    obtain ⟨d1, d2, d3⟩ := rgEntry_ok h7
    exact ⟨⟨id0, o0, id1, o1, id2, o2, body, rfl, ⟨pre, oR, T, kt, et, splitLast_ok h2, a1, a2, a3, hT, rfl⟩, ⟨oN, restN, headO_ok h4, b1, b2, b3, rfl⟩, ⟨oE, restE, headO_ok h6, d1, d2, d3, rfl⟩, ns, nb, hb⟩, fits_ok c5, fits_ok c6, fits_ok c7⟩
  · cases h
section
variable {P : Program} {nt : Nat} {r : RgP} {cb : Sh} {idm : B} {E : En} {Inv : B → En → F → H → Prop} {Kb K : X → F → H → Prop} {t t1 : F} {h h1 : H}
theorem OkS.of_shape (a : ∀ c, RngShape P nt c r.cpre r.m r.it r.cX r.more r.out r.nxt r.nx r.pr r.crest cb → CodeN P nt c t h K) : OkS P nt (.rng r cb) t h K := by
  intro ns n
  induction n with
  | zero => intro c e; cases e
  | succ n ih =>
    intro c e
    unfold shOf at e
    split at e
    · rename_i r' body hr
      cases e
      exact a c (rgTry_ok hr rfl)
    · cases c with
      | seq c1 c2 => have e : shSeq (shOf P ns nt n c1) (shOf P ns nt n c2) = .rng r cb := e; cases hs : shOf P ns nt n c1 <;> cases hs2 : shOf P ns nt n c2 <;> rw [hs, hs2] at e <;> cases e
      | block i c1 => have e : shBlk i (shOf P ns nt n c1) = .rng r cb := e; cases hs : shOf P ns nt n c1 <;> rw [hs] at e <;> cases e
      | scope c1 => exact CodeN.scope (ih c1 e)
      | cond o c1 c2 => have e : shCond (compO o) (shOf P ns nt n c1) (shOf P ns nt n c2) = .rng r cb := e; cases hs : shOf P ns nt n c1 <;> cases hs2 : shOf P ns nt n c2 <;> rw [hs, hs2] at e <;> cases e
      | loop c1 => have e : shLoop (shOf P ns nt n c1) = .rng r cb := e; rcases shLoop_or (shOf P ns nt n c1) with ⟨_, h⟩ | ⟨_, h⟩ <;> rw [h] at e <;> cases e
      | region _ ops dr => have e : shReg P ns nt ops dr = .rng r cb := e; rcases shReg_or P ns nt ops dr with h | ⟨_, _, _, _, _, _, _, _, h, _⟩ <;> rw [h] at e <;> cases e
      | _ => cases e
theorem OkS.rngF (pre : WO P r.cpre t h fun t1 h1 => ∃ idm E Inv Kb, oV (compO r.m) t1 = .m idm ∧ MapF h1 idm E ∧
      (∀ g, Stay nowhere h1 g → B.val g.next = B.val h1.next + 1 → Inv h1.next [] (put r.it (.p h1.next 0 0 0) t1) g) ∧
      RngSpec P nt r.it r.cX r.more r.out r.nxt r.nx r.pr r.crest cb idm E Inv Kb ∧
      (∀ x t' g, Kb x t' g → x ≠ .exit r.out → K x t' g)) : OkS P nt (.rng r cb) t h K := by
  obtain ⟨t1, h1, hpre, idm, E, Inv, Kb, hm, hM, start, spec, fin⟩ := pre
  exact OkS.of_shape fun _ S => CodeN.rangeF S hpre hm hM start spec fin
theorem OkS.rng0 (pre : WO P r.cpre t h fun t1 h1 => oV (compO r.m) t1 = .m0 ∧ WO P r.cX (put r.nx (.tu [.b false]) (put r.it .u t1)) h1 fun t' g' => oV (compO r.more) t' = .b false ∧ K .normal t' g') : OkS P nt (.rng r cb) t h K := by
  obtain ⟨t1, h1, hpre, hm, stop⟩ := pre
  exact OkS.of_shape fun _ S => CodeN.range0 S hpre hm stop
end
end Go.Ev

set_option maxRecDepth 1000000
set_option linter.all false
namespace Go.Proofs.Ytjlhfoadabkahaa
open Go Go.Ev
noncomputable abbrev r36_0 : RgP := (RgP.mk [(wB 6 (doMove (tm 0))), (wB 7 (doNilCheck (tm 6))), (wB 8 (doFieldAddr 1 (tm 7))), (wB 9 (doLoad (tm 8)))] (Operand.tmp 9) 10 [(wB 12 (doExtract 0 (tm 11)))] (Operand.tmp 12) 0 1 11 13 [(wB 14 (doExtract 1 (tm 13))), (wB 5 (doMove (tm 14)))])
noncomputable abbrev s36_0 : CC := (CC.region [(wB 15 (doMove (tm 3))), (wB 16 (doMove (tm 5))), (wB 17 (doLen (tm 16))), (wB 18 (bin2 fAdd (tm 15) (tm 17))), (wB 3 (doMove (tm 18)))])
noncomputable abbrev s36_1 : Sh := (Sh.cc s36_0)
noncomputable abbrev s36_2 : CC := (CC.seq (CC.region [(wB 19 (doMove (tm 3))), (wB 2 (doMove (tm 19)))]) CC.ret)
noncomputable abbrev s36_3 : Sh := (Sh.cc s36_2)
noncomputable abbrev s36_4 : Sh := (Sh.seq (Sh.rng r36_0 s36_1) s36_3)
noncomputable abbrev s36_5 : Sh := (Sh.seq (Sh.cc (CC.region [(wB 3 (doMove (oN 0)))])) s36_4)
noncomputable abbrev b36 : Sh := (Sh.seq (Sh.cc (CC.region [(wB 2 (doMove (oN 0)))])) s36_5)
theorem cs36 : shFn Try.prog 36 = ⟨20, b36, [(Rs.tmp (slOf 2))]⟩ := by kernel_rfl
end Go.Proofs.Ytjlhfoadabkahaa

namespace Go.Proofs.Ytjlhfoadabkahaa
open Go Go.Ev
theorem hmix : Try.prog.follows .mixedOrders = true := by kernel_rfl
open Go.Ev in
instance {nt : Nat} {t : F} {h : H} {K : X → F → H → Prop} {l : List CO} : St (Ok Try.prog nt (.draws l) t h K) (DO Try.prog l t h (K .normal)) := ⟨Ok.dw hmix⟩
end Go.Proofs.Ytjlhfoadabkahaa

set_option maxRecDepth 100000
set_option maxHeartbeats 8000000
set_option linter.all false
namespace Go.Proofs.Ytjlhfoadabkahaa
open Go Go.Ev
section
theorem wo_gen {P : Program} {l : List CO} {t : F} {h : H} {K0 : F → H → Prop} (a : ∀ K, K = K0 → WO P l t h K) : WO P l t h K0 := a K0 rfl
theorem sqs_n {P : Program} {nt : Nat} {s : Sh} {K : X → F → H → Prop} {t : F} {h : H} : SqS P nt s K .normal t h = OkS P nt s t h K := rfl
theorem fn_so {P : Program} {ns : List Nat} {f nt : Nat} {sh : Sh} {rs : List Rs} {vs : List V} {h : H} {K : V → H → Prop} (hf : shFnN P ns f = ⟨nt, sh, rs⟩) (hnt : 0 < nt) (hl1 : vs.length ≤ nt) (hl2 : vs.length ≤ 512) (ok : ∀ Q, Q = K → OkS P nt sh (slotsF vs 0 F.zero) h (FnK rs Q)) : FnN P f vs h K := fn_s hf hnt hl1 hl2 (ok K rfl)
theorem row_re {h : H} {id : B} {g o : Nat} {xs : List V} (r : Row h id g o xs) : Row (reFloor h) id g o xs := by cases h; exact r
def lenV (v : V) : Nat := match v with
  | .l _ _ _ len _ _ => len
  | _ => 0
def IsSl (v : V) : Prop := v = .l0 ∨ ∃ id g off len fin cap, v = .l id g off len fin cap
theorem IsSl.ln {P : Program} {h : H} {N : Nx} {v : V} (a : IsSl v) : H1 P gLen v h N = N.go P (.i .i64 (lenV v : Int)) h := by
  rcases a with rfl | ⟨id, g, off, len, fin, cap, rfl⟩
  · exact hv_of fun k => rfl
  · exact hv_of fun k => rfl
def usedE (E : En) : Nat := (E.map fun p => lenV p.2).sum
theorem usedE_app (E : En) (k : List UInt8) (v : V) : usedE (E ++ [(k, v)]) = usedE E + lenV v := by simp [usedE]
theorem pair_nodup {E : En} (hn : (keysE E).Nodup) : E.Nodup := by
  induction E with
  | nil => exact List.nodup_nil
  | cons p r ih =>
    have h := List.nodup_cons.1 (show (p.1 :: keysE r).Nodup from hn)
    exact List.nodup_cons.2 ⟨fun hp => h.1 (List.mem_map.2 ⟨p, hp, rfl⟩), ih h.2⟩
theorem VisOk.perm {E vis : En} (hn : (keysE E).Nodup) (hv : VisOk E vis) (ha : ∀ p ∈ E, p ∈ vis) : vis.Perm E := (List.perm_ext_iff_of_nodup (pair_nodup hv.2) (pair_nodup hn)).2 fun p => ⟨hv.1 p, ha p⟩
theorem usedE_perm {E F : En} (h : E.Perm F) : usedE E = usedE F := (h.map _).sum_nat
theorem sum_le_of_visok {E vis : En} (hv : VisOk E vis) : usedE vis ≤ usedE E := by
  haveI : DecidableEq (List UInt8 × V) := fun a b => Classical.propDecidable _
  have h1 : vis.Nodup := pair_nodup hv.2
  obtain ⟨h2, h3⟩ := hv
  clear h3
  induction vis generalizing E with
  | nil => exact Nat.zero_le _
  | cons p r ih =>
    have hp := h2 p (List.mem_cons_self ..)
    have hn := List.nodup_cons.1 h1
    have e : usedE E = lenV p.2 + usedE (E.erase p) := by
      rw [usedE_perm (List.perm_cons_erase hp)]; simp [usedE]
    have := ih (E := E.erase p) hn.2 (fun q hq => (List.mem_erase_of_ne fun (e : q = p) => hn.1 (by rw [← e]; exact hq)).2 (h2 q (List.mem_cons_of_mem _ hq)))
    rw [e]
    show lenV p.2 + usedE r ≤ _
    omega
/-- what a map holds, be it below the floor or not -/
structure MapB (h : H) (id : B) (E : En) : Prop where
  blk : ∃ b, h.heap.get id = some b ∧ b.min = b.cur + 7 ∧ RdP b.cells b.el (toP E)
  lt : B.val id < B.val h.next
  nod : (keysE E).Nodup
theorem _root_.Go.Ev.MapC.b {h : H} {id : B} {E : En} (m : MapC h id E) : MapB h id E := ⟨m.blk, m.lt, m.nod⟩
theorem MapB.re {h : H} {id : B} {E : En} (m : MapB h id E) : MapB (reFloor h) id E := by
  obtain ⟨b, b1, b2⟩ := m.blk
  exact ⟨⟨b, by rw [reFloor_heap]; exact b1, b2⟩, by rw [reFloor_next]; exact m.lt, m.nod⟩
theorem MapB.mf {h : H} {id : B} {E : En} (m : MapB h id E) : MapF (reFloor h) id E := by
  obtain ⟨b, b1, b2⟩ := m.blk
  exact ⟨⟨b, by rw [reFloor_heap]; exact b1, b2⟩, by rw [reFloor_floor]; exact m.lt, m.nod⟩
theorem MapB.read {h : H} {id : B} {E : En} (m : MapB h id E) : ∃ cur size fr, ∀ k, mapK h id k = k h.next h.floor h.heap cur (cur + 7) size fr (toP E) := by
  obtain ⟨⟨cur, min, size, cells, n, fr⟩, h1, h2, h4⟩ := m.blk
  obtain ⟨next, floor, heap⟩ := h
  simp only at h2 h4
  subst h2
  refine ⟨cur, size, fr, fun k => ?_⟩
  have h1' : heap.get id = some ⟨cur, cur + 7, size, cells, n, fr⟩ := h1
  have e7 : Nat.beq (cur + 7) (cur + 7) = true := Nat.beq_refl _
  simp only [mapK, hK_mk, h1', optK_some, blkK_mk, e7, ifK_true]
  exact getP_fine n cells 0 (toP E) h4.1 (fun i kv hi => by simpa using h4.2 i kv hi) _
theorem MapB.lk {P : Program} {h : H} {N : Nx} {z : V} {ok : Bool} {k : List UInt8} {id : B} {E : En} (m : MapB h id E) : LK P z ok (.m id) (sv k) h N = N.go P (lkRes ok ((getE E k).getD z) (getE E k).isSome) h := hv_of fun q => by
  obtain ⟨cur, size, fr, hr⟩ := m.read
  show mapK _ id _ = _
  rw [hr]
  show optK (findP none (sv k) (toP E)) _ = _
  rw [findP_sv]
  cases hi : idxE E k with
  | none => rw [(idxE_none hi).1]; rfl
  | some i => rw [(idxE_get hi).2]; rfl
theorem MapB.ln {P : Program} {h : H} {N : Nx} {id : B} {E : En} (m : MapB h id E) : MLn P (.m id) h N = N.go P (.i .i64 (E.length : Int)) h := hv_of fun q => by
  obtain ⟨cur, size, fr, hr⟩ := m.read
  show mapK _ id _ = _
  rw [hr]
  show q (.i .i64 (.ofNat (toP E).length)) = _
  rw [toP_len]; rfl
def MpB (h : H) (v : V) (E : En) : Prop := (v = .m0 ∧ E = []) ∨ ∃ id, v = .m id ∧ MapB h id E
theorem MpB.lk {P : Program} {h : H} {N : Nx} {z v : V} {ok : Bool} {k : List UInt8} {E : En} (m : MpB h v E) : LK P z ok v (sv k) h N = N.go P (lkRes ok ((getE E k).getD z) (getE E k).isSome) h := by
  rcases m with ⟨rfl, rfl⟩ | ⟨id, rfl, m⟩
  · exact lk_nil
  · exact m.lk
theorem MpB.ln {P : Program} {h : H} {N : Nx} {v : V} {E : En} (m : MpB h v E) : MLn P v h N = N.go P (.i .i64 (E.length : Int)) h := by
  rcases m with ⟨rfl, rfl⟩ | ⟨id, rfl, m⟩
  · exact mln_nil
  · exact m.ln
theorem MpB.re {h : H} {v : V} {E : En} (m : MpB h v E) : MpB (reFloor h) v E := m.imp id fun ⟨i, e, m⟩ => ⟨i, e, m.re⟩
theorem _root_.Go.Ev.MpV.b {h : H} {v : V} {E : En} (m : MpV h v E) : MpB h v E := m.imp id fun ⟨i, e, m⟩ => ⟨i, e, m.b⟩
theorem used_ok {h : H} {s idm : B} {f : Nat} {rm lo : V} {E : En} (r : Row h s 0 0 [rm, .m idm, lo]) (hf : 3 ≤ f) (m : MapB h idm E) (hE : ∀ p ∈ E, IsSl p.2) (hl : usedE E ≤ 9223372036854775807) :
    FnOk Try.prog 36 [.p s 0 0 f] h fun y h' => y = .i .i64 (usedE E : Int) ∧ h' = h := by
  refine FnN.pure ?_ (fun _ _ _ h => h)
  have r' := row_re r
  have m' := m.mf
  have hfl : B.val (reFloor h).floor ≤ B.val (reFloor h).next := by rw [reFloor_floor, reFloor_next]; exact Nat.le_refl _
  generalize reFloor h = g0 at r' m' hfl ⊢
  refine fn_so cs36 (by decide) (by simp) (by simp) fun Q hQ => ?_
  simp only [slotsF, Nat.reduceAdd]
  refine OkS.seq (OkS.cc ?_)
  repeat' (first
    | refine St.h ?_
    | simp (disch := first | omega | (simp only [lnv]; omega)) only [wlk, ↓get_put', ↓reduceIte, Nat.min_eq_left, seval, sqs_n]
    | (with_reducible (first | apply cd_split | apply gd_split)) <;> (intro hc; (try simp only [hcn] at hc); (try simp only [hc]); (try simp only [hcl] at hc); try omega))
  refine OkS.seq (OkS.cc ?_)
  repeat' (first
    | refine St.h ?_
    | simp (disch := first | omega | (simp only [lnv]; omega)) only [wlk, ↓get_put', ↓reduceIte, Nat.min_eq_left, seval, sqs_n]
    | (with_reducible (first | apply cd_split | apply gd_split)) <;> (intro hc; (try simp only [hcn] at hc); (try simp only [hc]); (try simp only [hcl] at hc); try omega))
  refine OkS.seq (OkS.rngF (wo_gen fun K hK => ?_))
  dsimp only [r36_0]
  simp (disch := first | omega | (simp only [lnv]; omega)) only [wlk, ↓get_put', ↓reduceIte, Nat.min_eq_left, seval, r'.l1]
  subst hK
  refine ⟨idm, E, fun idI vis t g => get 10 t = .p idI 0 0 0 ∧ get 3 t = .i .i64 (usedE vis : Int), fun x t' g => x = .normal ∧ get 3 t' = .i .i64 (usedE E : Int), ?_, m', ?_, ⟨fun h => h.1, fun h _ _ => h, ?_, ?_⟩, ?_⟩
  · show get 9 _ = _
    simp (disch := first | omega | (simp only [lnv]; omega)) only [wlk, ↓get_put', ↓reduceIte, Nat.min_eq_left, seval]
  · intro g st hn
    exact ⟨by simp (disch := first | omega | (simp only [lnv]; omega)) only [wlk, ↓get_put', ↓reduceIte, Nat.min_eq_left, seval], by simp (disch := first | omega | (simp only [lnv]; omega)) only [wlk, ↓get_put', ↓reduceIte, Nat.min_eq_left, seval]; rfl⟩
  · intro idI vis t g hI hv ha
    refine wo_gen fun K hK => ?_
    simp (disch := first | omega | (simp only [lnv]; omega)) only [wlk, ↓get_put', ↓reduceIte, Nat.min_eq_left, seval]
    subst hK
    refine ⟨?_, Stay.refl _ _, rfl, ?_⟩
    · show get 12 _ = _
      simp (disch := first | omega | (simp only [lnv]; omega)) only [wlk, ↓get_put', ↓reduceIte, Nat.min_eq_left, seval]
    · simp (disch := first | omega | (simp only [lnv]; omega)) only [wlk, ↓get_put', ↓reduceIte, Nat.min_eq_left, seval, hI.2]
      rw [usedE_perm (VisOk.perm m'.nod hv ha)]
  · intro idI vis t g k v hI hv hin hk
    have hsl := hE _ hin
    refine wo_gen fun K hK => ?_
    simp (disch := first | omega | (simp only [lnv]; omega)) only [wlk, ↓get_put', ↓reduceIte, Nat.min_eq_left, seval]
    subst hK
    refine ⟨?_, ?_, Stay.refl _ _, ?_⟩
    · show get 12 _ = _
      simp (disch := first | omega | (simp only [lnv]; omega)) only [wlk, ↓get_put', ↓reduceIte, Nat.min_eq_left, seval]
    · simp (disch := first | omega | (simp only [lnv]; omega)) only [wlk, ↓get_put', ↓reduceIte, Nat.min_eq_left, seval, hI.1]
    · refine wo_gen fun K hK => ?_
      simp (disch := first | omega | (simp only [lnv]; omega)) only [wlk, ↓get_put', ↓reduceIte, Nat.min_eq_left, seval]
      subst hK
      refine ⟨Stay.refl _ _, OkS.cc ?_⟩
      have h1 := sum_le_of_visok (E := E) (vis := vis ++ [(k, v)]) ⟨fun p hp => by
        rcases List.mem_append.1 hp with hp | hp
        · exact hv.1 p hp
        · rw [List.mem_singleton] at hp; rw [hp]; exact hin, by
        have : keysE (vis ++ [(k, v)]) = keysE vis ++ [k] := by simp [keysE]
        rw [this, List.nodup_append]
        exact ⟨hv.2, by simp, fun a ha b hb e => hk (by rw [List.mem_singleton] at hb; rw [← hb, ← e]; exact ha)⟩⟩
      rw [usedE_app] at h1
      repeat' (first
        | refine St.h ?_
        | simp (disch := first | omega | (simp only [lnv]; omega)) only [wlk, ↓get_put', ↓reduceIte, Nat.min_eq_left, seval, hI.2, hsl.ln]
        | (with_reducible (first | apply cd_split | apply gd_split)) <;> (intro hc; (try simp only [hcn] at hc); (try simp only [hc]); (try simp only [hcl] at hc); try omega))
      refine ⟨Stay.refl _ _, ?_⟩
      show _ ∧ _
      refine ⟨by simp (disch := first | omega | (simp only [lnv]; omega)) only [wlk, ↓get_put', ↓reduceIte, Nat.min_eq_left, seval, hI.1], ?_⟩
      rw [usedE_app]
      simp (disch := first | omega | (simp only [lnv]; omega)) only [wlk, ↓get_put', ↓reduceIte, Nat.min_eq_left, seval]
      rfl
  · rintro x t' g ⟨rfl, e⟩ _
    rw [sqs_n]
    refine OkS.cc ?_
    repeat' (first
      | refine St.h ?_
      | simp (disch := first | omega | (simp only [lnv]; omega)) only [wlk, ↓get_put', ↓reduceIte, Nat.min_eq_left, seval, e]
      | (with_reducible (first | apply cd_split | apply gd_split)) <;> (intro hc; (try simp only [hcn] at hc); (try simp only [hc]); (try simp only [hcl] at hc); try omega))
    subst hQ
    rfl
theorem used_nil {h : H} {s : B} {f : Nat} {rm lo : V} (r : Row h s 0 0 [rm, .m0, lo]) (hf : 3 ≤ f) :
    FnOk Try.prog 36 [.p s 0 0 f] h fun y h' => y = .i .i64 0 ∧ h' = h := by
  refine FnN.pure ?_ (fun _ _ _ h => h)
  have r' := row_re r
  generalize reFloor h = g0 at r' ⊢
  refine fn_so cs36 (by decide) (by simp) (by simp) fun Q hQ => ?_
  simp only [slotsF, Nat.reduceAdd]
  refine OkS.seq (OkS.cc ?_)
  repeat' (first
    | refine St.h ?_
    | simp (disch := first | omega | (simp only [lnv]; omega)) only [wlk, ↓get_put', ↓reduceIte, Nat.min_eq_left, seval, sqs_n]
    | (with_reducible (first | apply cd_split | apply gd_split)) <;> (intro hc; (try simp only [hcn] at hc); (try simp only [hc]); (try simp only [hcl] at hc); try omega))
  refine OkS.seq (OkS.cc ?_)
  repeat' (first
    | refine St.h ?_
    | simp (disch := first | omega | (simp only [lnv]; omega)) only [wlk, ↓get_put', ↓reduceIte, Nat.min_eq_left, seval, sqs_n]
    | (with_reducible (first | apply cd_split | apply gd_split)) <;> (intro hc; (try simp only [hcn] at hc); (try simp only [hc]); (try simp only [hcl] at hc); try omega))
  refine OkS.seq (OkS.rng0 (wo_gen fun K hK => ?_))
  dsimp only [r36_0]
  simp (disch := first | omega | (simp only [lnv]; omega)) only [wlk, ↓get_put', ↓reduceIte, Nat.min_eq_left, seval, r'.l1]
  subst hK
  refine ⟨?_, wo_gen fun K hK => ?_⟩
  · show get 9 _ = _
    simp (disch := first | omega | (simp only [lnv]; omega)) only [wlk, ↓get_put', ↓reduceIte, Nat.min_eq_left, seval]
  simp (disch := first | omega | (simp only [lnv]; omega)) only [wlk, ↓get_put', ↓reduceIte, Nat.min_eq_left, seval]
  subst hK
  refine ⟨?_, ?_⟩
  · show get 12 _ = _
    simp (disch := first | omega | (simp only [lnv]; omega)) only [wlk, ↓get_put', ↓reduceIte, Nat.min_eq_left, seval]
  · rw [sqs_n]
    refine OkS.cc ?_
    repeat' (first
      | refine St.h ?_
      | simp (disch := first | omega | (simp only [lnv]; omega)) only [wlk, ↓get_put', ↓reduceIte, Nat.min_eq_left, seval]
      | (with_reducible (first | apply cd_split | apply gd_split)) <;> (intro hc; (try simp only [hcn] at hc); (try simp only [hc]); (try simp only [hcl] at hc); try omega))
    subst hQ
    rfl
theorem used_any {h : H} {s : B} {f : Nat} {rm fl lo : V} {E : En} (r : Row h s 0 0 [rm, fl, lo]) (hf : 3 ≤ f) (m : MpB h fl E) (hE : ∀ p ∈ E, IsSl p.2) (hl : usedE E ≤ 9223372036854775807) :
    FnOk Try.prog 36 [.p s 0 0 f] h fun y h' => y = .i .i64 (usedE E : Int) ∧ h' = h := by
  rcases m with ⟨rfl, rfl⟩ | ⟨id, rfl, m⟩
  · exact used_nil r hf
  · exact used_ok r hf m hE hl
end
end Go.Proofs.Ytjlhfoadabkahaa

set_option linter.all false
namespace Go.Ev
open Go
/-- a block of cells that lies there already comes to be known as a new one -/
theorem adopt_ok {el : Nat} {cs : List V} {h : H} {k : B → H → Bool} (hk : alloc el cs h k = true) :
    ∃ h', (∀ k', alloc el cs h k' = k' h.next h') ∧ KeepF h h' ∧ B.val h.next ≤ B.val h'.next ∧
      ∀ ρ w w0 (c : Array Value) (b0 cap : Nat), HRel ρ h w w0 → w.heap[b0]? = some (.cells c el (0, 0)) → (∀ id g L, ρ id g = some L → L.b ≠ b0) → w0.heap.size ≤ b0 → cs.length ≤ c.size → c.size = cap → (∀ (i : Nat) v x, cs[i]? = some v → c[i]? = some x → VRel ρ v x) →
        ∃ ρ', Ext h.floor ρ ρ' ∧ ρ' h.next 0 = some ⟨b0, 0, cs.length, cap, none⟩ ∧ HRel ρ' h' w w0 := by
  obtain ⟨next, floor, heap⟩ := h
  have e : ∀ k', alloc el cs ⟨next, floor, heap⟩ k' = setList cs 0 .o fun t => T.setK next ⟨0, 0, cs.length, t, el, 0⟩ heap fun heap => B.incK next fun next' => k' next ⟨next', floor, heap⟩ := by
    intro k'; simp only [alloc, hK_mk, fN_eq]
  rw [e] at hk
  obtain ⟨t, h1, h2, h3⟩ := setList_ok _ _ _ _ hk
  obtain ⟨hp, h4, h5, h6⟩ := setK_ok next (⟨0, 0, cs.length, t, el, 0⟩ : Blk) heap
  obtain ⟨nx, h7, h8⟩ := incK_ok next
  refine ⟨⟨nx, floor, hp⟩, fun k' => by rw [e, h1, h4, h7], ⟨rfl, fun hf id hid => h6 id (fun e => by rw [e] at hid; exact absurd hf (Nat.not_le.2 hid))⟩, by show B.val next ≤ B.val nx; omega, fun ρ w w0 c b0 cap R hb0 hu h00 hl hcap hv => ?_⟩
  have hnone : ρ next 0 = none := by
    cases hr : ρ next 0 with
    | none => rfl
    | some L => have := R.ids _ _ _ hr; exact absurd this (Nat.lt_irrefl _)
  have hne : ∀ id g L, ρ id g = some L → ¬ (id = next) := fun id g L hr he => by
    have := R.ids _ _ _ hr; rw [he] at this; exact absurd this (Nat.lt_irrefl _)
  have hle := Emb.put_le ⟨b0, 0, cs.length, cap, none⟩ hnone
  refine ⟨ρ.put next 0 ⟨b0, 0, cs.length, cap, none⟩, Ext.put hnone R.flo, Emb.put_same _ _ _ _, ?_⟩
  have hcase : ∀ {id g L}, ρ.put next 0 ⟨b0, 0, cs.length, cap, none⟩ id g = some L → (id = next ∧ g = 0 ∧ L = ⟨b0, 0, cs.length, cap, none⟩) ∨ ρ id g = some L := by
    intro id g L hL
    by_cases e : id = next ∧ g = 0
    · left; obtain ⟨rfl, rfl⟩ := e; rw [Emb.put_same] at hL; exact ⟨rfl, rfl, (Option.some.inj hL).symm⟩
    · right; rwa [Emb.put_other _ _ _ _ e] at hL
  constructor
  · intro id g L hL
    rcases hcase hL with ⟨rfl, rfl, rfl⟩ | hL
    · refine ⟨_, h5, Nat.le_refl _, (Array.getElem?_eq_some_iff.1 hb0).1, Nat.zero_le _, fun _ => Nat.le_refl _, fun _ => rfl, fun _ => ⟨c, el, ⟨rfl, (0, 0), hb0, rfl⟩, hcap, by show cs.length - 0 ≤ cap; omega, fun i _ hi => ?_⟩⟩
      have hi' : i < cs.length := hi
      have hx : ∃ x, c[i]? = some x := ⟨c[i]'(by omega), by simp⟩
      obtain ⟨x, hx⟩ := hx
      have hvi : cs[i]? = some cs[i] := by simp [hi']
      refine ⟨cs[i], x, ?_, by simpa using hx, VRel.up hle _ _ (hv i _ _ hvi hx)⟩
      have := h2 i _ hvi
      simpa using this
    · obtain ⟨blk, a1, a2, a3, a4, a5, a6, a7⟩ := R.loc _ _ _ hL
      refine ⟨blk, (h6 id (hne _ _ _ hL)).trans a1, a2, a3, a4, a5, a6, fun hm => ?_⟩
      obtain ⟨c', el', b1, b2, b3, b4⟩ := a7 hm
      refine ⟨c', el', b1, b2, b3, fun i i1 i2 => ?_⟩
      obtain ⟨v, x, d1, d2, d3⟩ := b4 i i1 i2
      exact ⟨v, x, d1, d2, VRel.up hle _ _ d3⟩
  · intro id g L hL
    show B.val id < B.val nx
    rcases hcase hL with ⟨rfl, rfl, rfl⟩ | hL
    · rw [h8]; exact Nat.lt_succ_self _
    · have : B.val id < B.val next := R.ids _ _ _ hL
      rw [h8]; omega
  · intro id g L id' g' L' hL hL' hb
    rcases hcase hL with ⟨i1, i2, i3⟩ | hM <;> rcases hcase hL' with ⟨j1, j2, j3⟩ | hM'
    · exact ⟨i1.trans j1.symm, by rw [i3, j3]⟩
    · exact absurd (by rw [← hb, i3]) (hu _ _ _ hM')
    · exact absurd (by rw [hb, j3]) (hu _ _ _ hM)
    · exact R.sep _ _ _ _ _ _ hM hM' hb
  · show B.val floor ≤ B.val nx
    have : B.val floor ≤ B.val next := R.flo
    rw [h8]; omega
  · intro b hb
    exact R.old b hb
  · intro id g L hL hf
    rcases hcase hL with ⟨rfl, rfl, rfl⟩ | hL
    · exact h00
    · exact R.up _ _ _ hL hf
  · exact R.tp
  · exact R.os
  · exact R.out
  · exact R.siz
  · refine R.mp.of hle fun id L blk h1 h2' h3' => ?_
    rcases hcase h1 with ⟨rfl, _, _⟩ | hL
    · have : hp.get id = some blk := h2'
      rw [h5] at this
      rw [← Option.some.inj this] at h3'
      have h3' : 0 = 0 + 7 := h3'
      exact absurd h3' (by decide)
    · obtain ⟨_, _, _, a3, _⟩ := R.loc _ _ _ hL
      exact ⟨hL, (h6 id (hne _ _ _ hL)).symm.trans h2', rfl⟩
  · refine R.ito.of fun id g L blk h1 h2' _ h3' => ?_
    rcases hcase h1 with ⟨rfl, _, _⟩ | hL
    · have : hp.get id = some blk := h2'
      rw [h5] at this
      rw [← Option.some.inj this] at h3'
      have h3' : 0 = 0 + 9 := h3'
      exact absurd h3' (by decide)
    · obtain ⟨_, _, _, a3, _⟩ := R.loc _ _ _ hL
      exact ⟨hL, (h6 id (hne _ _ _ hL)).symm.trans h2', rfl⟩
end Go.Ev

set_option maxRecDepth 100000
set_option maxHeartbeats 8000000
set_option linter.all false
namespace Go.Proofs.Ytjlhfoadabkahaa
open Go Go.Ev
open Go.RowKit Go.Shelf in
theorem sortsC (m : Nat) : AnyZ.SortsIn Try.prog Try.sorted61_ren Fence.wide m :=
  ⟨fun blk off cap ss W hH hblk hsz => callsIn_wide.2 (AnyM.slices_Sort_string Try.sort84 blk off cap ss W hH hblk hsz), fun p cap W => callsIn_wide.2 (AnyM.slices_Sort_string_none Try.sort84 p cap W)⟩
theorem keysC (mb : Option Nat) (W : World) : CallsIn Fence.wide 5 Try.prog 62 #[.map mb] W fun e w' => e = .returned (.func (.func 85) #[] #[.pointer (some ⟨W.heap.size, 0, none⟩)]) ∧ w' = W.alloc (.cells #[.map mb] 73) :=
  AnyZ.keys_in Try.keys62 Fence.wide 5 trivial rfl mb W
theorem keys_ok {h : H} {v : V} (hv : v = .m0 ∨ ∃ id, v = .m id) (hf : B.val h.floor ≤ B.val h.next) : FnOk Try.prog 62 [v] h fun y h' => y = .f 85 [.p h.next 0 0 1] ∧ Ev.Own h' h.next [v] ∧ Stay nowhere h h' ∧ B.val h'.next = B.val h.next + 1 := by
  obtain ⟨h', a1, a2, a3, blk, b1, b2, b3, b4, b5, b6, b7⟩ := alloc_new 73 [v] h (by show 1 < 2 ^ 38; omega)
  obtain ⟨h2, c1, c2, c3, c4⟩ := alloc_ok (el := 73) (cs := [v]) (h := h) (k := fun _ _ => true) (by rw [a1])
  have e2 : h2 = h' := by
    have := c1 fun _ u => @decide (u = h') (Classical.propDecidable _)
    rw [a1] at this
    simp at this
    exact this
  subst e2
  refine ⟨.f 85 [.p h.next 0 0 1], h2, ⟨c2, c3, fun ρ w w0 args hl R => ?_⟩, rfl, ⟨blk, b1, b3, b2, b6, by rw [a2.floor]; exact hf, by omega, b7⟩, a2, a3⟩
  have key : ∀ mb : Option Nat, args = [.map mb] → VRel ρ v (.map mb) → (callFunc 62 args.toArray).run Try.prog w = .ok (.enter 62 args.toArray) w ∧ Calls Try.prog 62 args.toArray w fun e w' => ∃ x, e = .returned x ∧ Done h.floor ρ w0 (.f 85 [.p h.next 0 0 1]) h2 x w' := by
    rintro mb rfl hm
    refine ⟨enters_of Try.func62 (by kernel_rfl) rfl _ _, (callsIn_wide.1 (keysC mb w)).mono fun e w' he => ?_⟩
    obtain ⟨e1, rfl⟩ := he
    obtain ⟨ρ', q1, q2, q3⟩ := c4 ρ w w0 #[.map mb] 0 1 R (Nat.le_refl _) rfl (fun i y x hy hx => by
      cases i with
      | zero => cases hy; cases hx; exact hm
      | succ i => cases hy) rfl
    exact ⟨_, e1, ρ', q1, ⟨_, rfl, ⟨⟨_, q2, rfl, Nat.le_refl _, Nat.le_refl _⟩, trivial⟩⟩, q3⟩
  cases args with
  | nil => cases hl
  | cons x r =>
    obtain ⟨hx, hr⟩ := hl
    cases r with
    | cons _ _ => cases hr
    | nil =>
      rcases hv with rfl | ⟨id, rfl⟩
      · have hx' : x = .map none := hx
        exact key none (by rw [hx']) rfl
      · obtain ⟨L, l1, l2⟩ := hx
        exact key (some L.b) (by rw [l2]) ⟨L, l1, rfl⟩
end Go.Proofs.Ytjlhfoadabkahaa

set_option maxRecDepth 100000
set_option maxHeartbeats 8000000
set_option linter.all false
namespace Go.Proofs.Ytjlhfoadabkahaa
open Go Go.Ev
theorem insert_perm {H : Type} (x : Lit × DataW H) : ∀ l, (DataW.insert x l).Perm (x :: l)
  | [] => .refl _
  | y :: r => by
    unfold DataW.insert
    split
    · exact .refl _
    · exact ((insert_perm x r).cons y).trans (.swap ..)
theorem foldr_perm {H : Type} : ∀ l : List (Lit × DataW H), (l.foldr DataW.insert []).Perm l
  | [] => .refl _
  | x :: l => (insert_perm x _).trans ((foldr_perm l).cons x)
def rNil (_ : Value) : Option (DataW Unit × List MemPlace) := some (.nil, [])
theorem sv_str {ρ : Emb} {k : List UInt8} {x : Value} (h : VRel ρ (sv k) x) : ∃ bs : ByteArray, x = .string bs ∧ bs.data.toList = k := by
  obtain ⟨b1, rfl, e1, e2, e3⟩ := srel h
  exact ⟨b1, rfl, (key_det (k := k) (k' := b1.data.toList) h (srel_mk (by simp) (by simp))).symm⟩
theorem rd_key {ρ : Emb} {k : List UInt8} {e : MapEntry} (h : VRel ρ (sv k) e.key) (hl : k.length ≤ maxLen) : Go.WideElems.rd Try.prog 9 rNil e = some (.string k, .nil) := by
  obtain ⟨bs, h1, h2⟩ := sv_str h
  have hs : bs.size ≤ maxLen := by
    have : bs.size = k.length := by rw [← h2]; simp
    rw [this]; exact hl
  unfold Go.WideElems.rd
  rw [h1, _root_.Go.WideMaps.keyOf_string_mk Try.underlying9 hs, h2]
  rfl
theorem rds_keys {ρ : Emb} : ∀ {E : En} {l : List MapEntry}, F2 ρ (toP E) l → (∀ p ∈ E, p.1.length ≤ maxLen) → l.map (Go.WideElems.rg Try.prog 9 rNil) = E.map (fun p => (Lit.string p.1, DataW.nil)) ∧ ∀ x ∈ l, ∃ y, Go.WideElems.rd Try.prog 9 rNil x = some y
  | [], _, .nil, _ => ⟨rfl, fun x h => by cases h⟩
  | p :: E, _, .cons a b c, hk => by
    obtain ⟨h1, h2⟩ := rds_keys c fun q hq => hk q (List.mem_cons_of_mem _ hq)
    have h3 := rd_key a (hk p (List.mem_cons_self ..))
    refine ⟨?_, fun x hx => ?_⟩
    · rw [List.map_cons, List.map_cons, h1]
      unfold Go.WideElems.rg
      rw [h3]; rfl
    · rcases List.mem_cons.1 hx with rfl | hx
      · exact ⟨_, h3⟩
      · exact h2 x hx
theorem ownsMap_of {ρ : Emb} {w : World} {b : Nat} {E : En} {es : Array MapEntry} {clock : Nat} (hb : w.heap[b]? = some (.map es clock)) (m : MapP ρ (toP E) es clock) (hk : ∀ p ∈ E, p.1.length ≤ maxLen) (hs : es.size ≤ maxLen) :
    ∃ D0 : DataW Unit, w.ownsMap Try.prog 9 rNil b es.size D0 ∧ (Go.strKeys D0).Perm (keysE E) ∧ Go.Maps.size D0 = E.length := by
  obtain ⟨l, l1, l2⟩ := m.rel
  obtain ⟨r1, r2⟩ := rds_keys l2 hk
  have p1 : ((es.toList.map (Go.WideElems.rg Try.prog 9 rNil)).foldr DataW.insert []).Perm (E.map (fun p => (Lit.string p.1, DataW.nil))) := by
    rw [← r1]
    exact (foldr_perm _).trans (l1.symm.map _)
  refine ⟨_, ⟨es, clock, hb, ⟨hs, m.st, fun x hx => r2 x (l1.mem_iff.2 hx)⟩, Nat.le_refl _, rfl⟩, ?_, ?_⟩
  · have := p1.map (fun p => Go.strOf p.1)
    refine this.trans ?_
    rw [List.map_map]
    exact .refl _
  · have := p1.length_eq
    rw [List.length_map] at this
    exact this
end Go.Proofs.Ytjlhfoadabkahaa

set_option linter.all false
namespace Go.Ev
open Go
section
variable {h : H}
/-- all cells of a block at once -/
theorem ST.ownAll {P : Program} {N : Nx} {id : B} {xs vs : List V} {x : V} {size fin : Nat} (o : Own h id xs) (hc : cells x = vs) (hs : vs.length = size) (h1 : allOne vs = true) (hj : vs.length ≤ fin) (hfit : vs.length < 2 ^ 37)
    (k : ∀ h', Own h' id vs → Stay (fun i => i = id) h h' → N.go P (.tu []) h') : ST P size (.p id 0 0 fin) x h N := by
  obtain ⟨blk, a1, a2, a3, a4, a5, a6, a7⟩ := o
  obtain ⟨next, floor, heap⟩ := h
  obtain ⟨cur, min, sz, cs, bel, fr⟩ := blk
  simp only at a2 a3 a4 a7
  subst a2; subst a3; subst a4
  obtain ⟨tr, t1, t2, t3⟩ := setList_fine vs 0 cs (by omega)
  obtain ⟨hp, s1, s2, s3⟩ := setK_ok id (⟨0, 0, sz, tr, bel, 0⟩ : Blk) heap
  have e1 : B.geB floor id = true := by cases floor <;> first | rfl | (show Nat.ble _ _ = true; rw [Nat.ble_eq]; exact a5)
  have e2 : Nat.ble (Nat.add 0 vs.length) fin = true := by rw [Nat.ble_eq]; show 0 + vs.length ≤ fin; omega
  have e4 : frOk 0 0 = true := rfl
  have e5 : Nat.beq 0 0 = true := rfl
  have e6 : Nat.ble 0 0 = true := rfl
  have e7 : Nat.beq vs.length size = true := by rw [hs]; simp
  have a1' : heap.get id = some ⟨0, 0, sz, cs, bel, 0⟩ := a1
  refine hm_of (v := .tu []) (h' := ⟨next, floor, hp⟩) (fun q => ?_) (k _ ⟨_, s2, rfl, rfl, rfl, a5, a6, fun i z hz => by have := t2 i z hz; rwa [Nat.zero_add] at this⟩ ⟨rfl, Nat.le_refl _, fun i _ hi => s3 i hi⟩)
  show ifK (Nat.beq (cells x).length size) (fun _ => store ⟨next, floor, heap⟩ id 0 0 fin (cells x) fun h => q (.tu []) h) = _
  rw [hc, e7, ifK_true]
  simp only [store, hK_mk, a1', optK_some, blkK_mk, e5, e6, e1, e2, h1, e4, ifK_true]
  rw [t1, s1]
end
theorem ST.all {P : Program} {h : H} {N : Nx} {id : B} {xs vs : List V} {size fin : Nat} (o : Own h id xs) (hs : vs.length = size) (h1 : allOne vs = true) (hj : vs.length ≤ fin) (hfit : vs.length < 2 ^ 37)
    (k : ∀ h', Own h' id vs → Stay (fun i => i = id) h h' → N.go P (.tu []) h') : ST P size (.p id 0 0 fin) (.a vs) h N := ST.ownAll o rfl hs h1 hj hfit k
theorem re_fl (h : H) : B.val (reFloor h).floor ≤ B.val (reFloor h).next := by cases h; exact Nat.le_refl _
/-- a new block in a region that draws -/
theorem AL.ownU {P : Program} {t : F} {h : H} {K : F → H → Prop} {l : List CO} {el m : Nat} {cs : List V} {mk : B → V} (hl : cs.length < 2 ^ 37) (hf : B.val h.floor ≤ B.val h.next)
    (k : ∀ h', Stay nowhere h h' → Own h' h.next cs → DO P l (put m (mk h.next) t) h' K) : AL P el cs mk (reFloor h) (.u m l t h K) := by
  have hn : (reFloor h).next = h.next := by cases h; rfl
  refine AL.own hl (re_fl _) fun h1' s1 n1 o1 => ?_
  rw [hn] at o1 ⊢
  rw [go_u]
  exact k _ s1.unfloor (o1.unfloor hf)
/-- a row of structs of n cells each -/
def Ss {α : Type} (n : Nat) (c : α → List V) (h : H) (v : V) (L : List α) : Prop :=
  (v = .l0 ∧ L = []) ∨ ∃ id g off fin cap, v = .l id g off L.length fin cap ∧ off + L.length * n ≤ fin ∧ B.val id < B.val h.next ∧ Row h id g off (L.flatMap c)
section
variable {α : Type} [Inhabited α] {n : Nat} {c : α → List V}
theorem fm_len (hc : ∀ e, (c e).length = n) : ∀ (L : List α), (L.flatMap c).length = L.length * n
  | [] => by simp
  | a :: L => by rw [List.flatMap_cons, List.length_append, hc, fm_len hc L, List.length_cons, Nat.add_mul]; omega
theorem fm_at (hc : ∀ e, (c e).length = n) : ∀ {L : List α} {i : Nat}, i < L.length → ((L.flatMap c).drop (i * n)).take n = c (L.getD i default)
  | [], i, h => by simp at h
  | a :: L, 0, h => by
    rw [List.flatMap_cons, Nat.zero_mul, List.drop_zero, List.take_append_of_le_length (by rw [hc]; exact Nat.le_refl _), List.take_of_length_le (by rw [hc]; exact Nat.le_refl _)]; rfl
  | a :: L, i + 1, h => by
    have e : (i + 1) * n = (c a).length + i * n := by rw [hc, Nat.add_mul]; omega
    rw [List.flatMap_cons, e, ← List.drop_drop, List.drop_left, fm_at hc (by simpa using h)]
    simp [List.getD]
theorem fm_get (hc : ∀ e, (c e).length = n) {L : List α} {i d : Nat} (hi : i < L.length) (hd : d < n) : (L.flatMap c)[i * n + d]? = some ((c (L.getD i default)).getD d .u) := by
  have e : (((L.flatMap c).drop (i * n)).take n)[d]? = (c (L.getD i default))[d]? := by rw [fm_at hc hi]
  rw [List.getElem?_take, if_pos hd, List.getElem?_drop] at e
  rw [e]
  have : d < (c (L.getD i default)).length := by rw [hc]; exact hd
  have e3 : ∀ (x : List V), d < x.length → x[d]? = some (x.getD d .u) := fun x hx => by simp [List.getD, hx]
  exact e3 _ this
theorem fm_take (hc : ∀ e, (c e).length = n) : ∀ (L : List α) (k : Nat), (L.take k).flatMap c = (L.flatMap c).take (k * n)
  | [], k => by simp
  | a :: L, 0 => by simp
  | a :: L, k + 1 => by
    have e : (k + 1) * n = (c a).length + k * n := by rw [hc, Nat.add_mul]; omega
    have e2 : ((c a) ++ L.flatMap c).take ((c a).length + k * n) = c a ++ (L.flatMap c).take (k * n) := by
      rw [List.take_append, Nat.add_sub_cancel_left, List.take_of_length_le (Nat.le_add_right _ _)]
    rw [List.take_succ_cons, List.flatMap_cons, List.flatMap_cons, fm_take hc L k, e, e2]
theorem fm_drop (hc : ∀ e, (c e).length = n) : ∀ (L : List α) (k : Nat), (L.drop k).flatMap c = (L.flatMap c).drop (k * n)
  | [], k => by simp
  | a :: L, 0 => by simp
  | a :: L, k + 1 => by
    rw [List.drop_succ_cons, List.flatMap_cons, fm_drop hc L k, show (k + 1) * n = (c a).length + k * n by rw [hc, Nat.add_mul]; omega, ← List.drop_drop, List.drop_left]
variable {P : Program} {h h' g' : H} {N : Nx} {v : V} {L : List α} {i d : Nat}
theorem Ss.ln (a : Ss n c h v L) : H1 P gLen v g' N = N.go P (.i .i64 (L.length : Int)) g' := by
  rcases a with ⟨rfl, rfl⟩ | ⟨id, g, off, fin, cap, rfl, _⟩
  · exact gLen_l0
  · exact gLen_l
theorem Ss.ldA (a : Ss n c h v L) (hc : ∀ e, (c e).length = n) (hn : 1 ≤ n) (hi : i < L.length) : LN P (lid v) (lg v) (loff v + i * n) (lfin v) n h N = N.go P (.a (c (L.getD i default))) h := by
  rcases a with ⟨rfl, rfl⟩ | ⟨id, g, off, fin, cap, rfl, hf, hl, r⟩
  · simp at hi
  · refine hv_of fun k => ?_
    have h1 : (i + 1) * n ≤ L.length * n := Nat.mul_le_mul_right n hi
    rw [Nat.add_mul] at h1
    have hlen := hc (L.getD i default)
    refine loadN_row (vs := c (L.getD i default)) ⟨fun _ => r.1 ?_, fun j y hy => ?_⟩ hlen (by intro e; rw [e] at hlen; simp at hlen; omega) (by show off + i * n + n ≤ fin; omega) fun vs => k (.a vs)
    · intro e
      have h2 := fm_len hc L
      rw [e] at h2
      have h3 : L.length * n = 0 := h2.symm
      omega
    · have hj : j < n := by rw [← hlen]; exact (List.getElem?_eq_some_iff.1 hy).1
      have e := fm_get hc hi hj
      rw [List.getD, hy] at e
      have := r.2 (i * n + j) _ e
      rw [← Nat.add_assoc] at this
      exact this
theorem Ss.grow (a : Ss n c h v L) (s : Stay nowhere h h') : Ss n c h' v L := by
  rcases a with ⟨rfl, rfl⟩ | ⟨id, g, off, fin, cap, rfl, hf, hl, r⟩
  · exact .inl ⟨rfl, rfl⟩
  · exact .inr ⟨id, g, off, fin, cap, rfl, hf, Nat.lt_of_lt_of_le hl s.next, r.grow s hl⟩
theorem Ss.stay {p : B → Prop} (a : Ss n c h v L) (s : Stay p h h') (hp : ∀ id, isOf v id → ¬ p id) : Ss n c h' v L := by
  rcases a with ⟨rfl, rfl⟩ | ⟨id, g, off, fin, cap, rfl, hf, hl, r⟩
  · exact .inl ⟨rfl, rfl⟩
  · exact .inr ⟨id, g, off, fin, cap, rfl, hf, Nat.lt_of_lt_of_le hl s.next, r.stay s hl (hp id ⟨_, _, _, _, _, rfl⟩)⟩
theorem Ss.nil : Ss n c h .l0 ([] : List α) := .inl ⟨rfl, rfl⟩
/-- of a literal -/
theorem Ss.lit {id : B} {xs : List V} {cap : Option Nat} {len fin : Nat} (o : Own h id xs) (e : xs = L.flatMap c) (hc : ∀ e, (c e).length = n) (hl : len = L.length) (hf : L.length * n ≤ fin) : Ss n c h (.l id 0 0 len fin cap) L := by
  subst hl; subst e
  have r := o.row
  obtain ⟨blk, h1, h2, h3, h4, h5, h6, h7⟩ := o
  exact .inr ⟨id, 0, 0, fin, cap, rfl, by omega, h6, r⟩
/-- of a row that grew -/
theorem Ss.buf {el : Nat} {xs : List V} (b : Buf h el n v xs) (e : xs = L.flatMap c) (hc : ∀ e, (c e).length = n) (hn : 1 ≤ n) : Ss n c h v L := by
  subst e
  rcases b with ⟨rfl, he⟩ | ⟨id, g, m, blk, rfl, h1, h2, h3, h4, h5, h6, h7, h8, h9, h10⟩
  · refine .inl ⟨rfl, ?_⟩
    cases L with
    | nil => rfl
    | cons a L =>
      have := fm_len hc (a :: L)
      rw [he] at this
      have h3 : (L.length + 1) * n = 0 := this.symm
      rw [Nat.add_mul] at h3; omega
  · have hm : m = L.length := by
      rw [fm_len hc] at h2
      exact (Nat.eq_of_mul_eq_mul_right (by omega) h2).symm
    subst hm
    refine .inr ⟨id, g, 0, (L.flatMap c).length, none, rfl, by rw [fm_len hc]; omega, h4, fun _ => ⟨blk, h5, h6.1⟩, fun i y hy => ?_⟩
    unfold Ev.cell cellB
    rw [h5]
    show (if blk.min ≤ g then blk.cells.getN (0 + i) else none) = _
    rw [if_pos h6.1, Nat.zero_add]
    exact h10 i y hy
/-- a slice whose end is where it should be -/
def SwN (n : Nat) (v : V) : Prop := v = .l0 ∨ ∃ id g off m fin cap, v = .l id g off m fin cap ∧ match cap with
  | some c => m ≤ c ∧ (18446744073709551616 ≤ c → m = 0)
  | none => fin = off + m * n
theorem swn_capS {n off k L : Nat} : match capS k L with
  | some c => k ≤ c ∧ (18446744073709551616 ≤ c → k = 0)
  | none => off + k * n = off + k * n := by
  cases k with
  | zero => (cases L with | zero => exact rfl | succ L => exact ⟨Nat.zero_le _, fun _ => rfl⟩)
  | succ k => exact rfl
theorem row_hi {id : B} {g off k : Nat} (hc : ∀ e, (c e).length = n) (r : Row h id g off (L.flatMap c)) : Row h id g off ((L.take k).flatMap c) := by
  rw [fm_take hc]
  refine ⟨fun hne => r.1 fun e => hne (by rw [e]; simp), fun i y hy => r.2 i y ?_⟩
  rw [List.getElem?_take] at hy
  split at hy
  · exact hy
  · cases hy
theorem row_lo {id : B} {g off k : Nat} (hc : ∀ e, (c e).length = n) (r : Row h id g off (L.flatMap c)) : Row h id g (off + k * n) ((L.drop k).flatMap c) := by
  rw [fm_drop hc]
  refine ⟨fun hne => r.1 fun e => hne (by rw [e]; simp), fun i y hy => ?_⟩
  rw [List.getElem?_drop] at hy
  have := r.2 _ y hy
  rwa [← Nat.add_assoc] at this
theorem Ss.hi {kd : IntKind} {k : Nat} (a : Ss n c h v L) (hc : ∀ e, (c e).length = n) (w : SwN n v) (hk : k ≤ L.length) : ∃ u, Ss n c h u (L.take k) ∧ SwN n u ∧ ∀ (g : H) (N : Nx), H2 P (slHiV n) v (.i kd (k : Int)) g N = N.go P u g := by
  have e0 : Nat.ble 0 k = true := by rw [Nat.ble_eq]; omega
  have hkn : k * n ≤ L.length * n := Nat.mul_le_mul_right n hk
  have htk : (L.take k).length = k := by rw [List.length_take]; omega
  rcases a with ⟨rfl, rfl⟩ | ⟨id, g, off, fin, cap, rfl, h2, h3, r⟩
  · have : k = 0 := by simpa using hk
    subst this
    exact ⟨.l0, .inl ⟨rfl, by simp⟩, .inl rfl, fun g N => hv_of fun k => rfl⟩
  rcases w with e | ⟨id', g', off', n', fin', cap', e, hw⟩
  · cases e
  cases e
  cases cap with
  | none =>
    have hw : fin = off + L.length * n := hw
    refine ⟨.l id g off k (off + k * n) (capS k L.length), .inr ⟨id, g, off, off + k * n, capS k L.length, by rw [htk], by rw [htk]; exact Nat.le_refl _, h3, row_hi hc r⟩, .inr ⟨_, _, _, _, _, _, rfl, swn_capS⟩, fun g0 N => hv_of fun q => ?_⟩
    have e1 : Nat.ble k L.length = true := by rw [Nat.ble_eq]; exact hk
    have e2 : Nat.beq fin (Nat.add off (Nat.mul L.length n)) = true := by rw [hw]; exact Nat.beq_refl _
    unfold slHiV
    simp only [vL_l, vI_i, natK_cast, e0, ifK_true]
    show sliceN n id g off L.length fin 0 k q = _
    unfold sliceN
    rw [e1, ifK_true, e2, ifK_true, fN_eq, fN_eq, fN_eq]
    show q (.l id g (off + 0 * n) (k - 0) (off + k * n) (capS k L.length)) = _
    simp
  | some cc =>
    have hw2 : 18446744073709551616 ≤ cc → L.length = 0 := hw.2
    have hw : L.length ≤ cc := hw.1
    have e1 : Nat.ble k cc = true := by rw [Nat.ble_eq]; omega
    cases hfc : flagB cc with
    | true =>
      have hcc := flagB_t hfc
      have hx := hw2 hcc
      have hk0 : k = 0 := by omega
      subst hk0
      refine ⟨.l id g off 0 off (some cc), .inr ⟨id, g, off, off, some cc, by simp, by simp, h3, row_hi hc r⟩, .inr ⟨_, _, _, _, _, _, rfl, Nat.zero_le _, fun _ => rfl⟩, fun g0 N => hv_of fun q => ?_⟩
      unfold slHiV
      simp only [vL_l, vI_i, natK_cast, e0, ifK_true]
      show boolK (flagB cc) (fun _ => ifK (Nat.beq 0 0) fun _ => q (.l id g off 0 off (some cc))) _ = _
      rw [hfc]; rfl
    | false =>
    have hcM := flagB_f hfc
    cases cc with
    | zero =>
      have hx : L.length = 0 := by omega
      have hk0 : k = 0 := by omega
      subst hk0
      refine ⟨.l id g off 0 fin (some 0), .inr ⟨id, g, off, fin, some 0, by simp, by simp; omega, h3, row_hi hc r⟩, .inr ⟨_, _, _, _, _, _, rfl, Nat.le_refl _, fun _ => rfl⟩, fun g0 N => hv_of fun q => ?_⟩
      unfold slHiV
      simp only [vL_l, vI_i, natK_cast, e0, ifK_true]
      rfl
    | succ cc =>
      refine ⟨.l id g off k fin (some (cc + 1)), .inr ⟨id, g, off, fin, some (cc + 1), by rw [htk], by rw [htk]; omega, h3, row_hi hc r⟩, .inr ⟨_, _, _, _, _, _, rfl, by show k ≤ cc + 1; omega, fun h => absurd hcM (Nat.not_lt.2 h)⟩, fun g0 N => hv_of fun q => ?_⟩
      unfold slHiV
      simp only [vL_l, vI_i, natK_cast, e0, ifK_true]
      show boolK (flagB (cc + 1)) _ (fun _ => sliceC n id g off L.length fin (cc + 1) 0 k fun v => q v) = _
      rw [hfc, boolK_false, sliceC_mid hcM (by omega) (by omega)]
      simp
theorem Ss.lo {kd : IntKind} {k : Nat} (a : Ss n c h v L) (hc : ∀ e, (c e).length = n) (w : SwN n v) (hk : k ≤ L.length) : ∃ u, Ss n c h u (L.drop k) ∧ SwN n u ∧ ∀ (g : H) (N : Nx), H2 P (slLoV n) v (.i kd (k : Int)) g N = N.go P u g := by
  have e0 : Nat.ble k L.length = true := by rw [Nat.ble_eq]; omega
  have hkn : k * n + (L.length - k) * n = L.length * n := by rw [← Nat.add_mul]; congr 1; omega
  have htk : (L.drop k).length = L.length - k := List.length_drop
  rcases a with ⟨rfl, rfl⟩ | ⟨id, g, off, fin, cap, rfl, h2, h3, r⟩
  · have : k = 0 := by simpa using hk
    subst this
    exact ⟨.l0, .inl ⟨rfl, by simp⟩, .inl rfl, fun g N => hv_of fun k => rfl⟩
  rcases w with e | ⟨id', g', off', n', fin', cap', e, hw⟩
  · cases e
  cases e
  cases cap with
  | none =>
    have hw : fin = off + L.length * n := hw
    refine ⟨.l id g (off + k * n) (L.length - k) (off + L.length * n) none, .inr ⟨id, g, off + k * n, off + L.length * n, none, by rw [htk], by rw [htk]; omega, h3, row_lo hc r⟩, .inr ⟨_, _, _, _, _, _, rfl, by show off + L.length * n = off + k * n + (L.length - k) * n; omega⟩, fun g0 N => hv_of fun q => ?_⟩
    have e1 : Nat.ble L.length L.length = true := by rw [Nat.ble_eq]; exact Nat.le_refl _
    have e2 : Nat.beq fin (Nat.add off (Nat.mul L.length n)) = true := by rw [hw]; exact Nat.beq_refl _
    unfold slLoV
    simp only [vL_l, vI_i, natK_cast, e0, ifK_true]
    show sliceN n id g off L.length fin k L.length q = _
    unfold sliceN
    rw [e1, ifK_true, e2, ifK_true, fN_eq, fN_eq, fN_eq, capS_self]
    rfl
  | some cc =>
    have hw2 : 18446744073709551616 ≤ cc → L.length = 0 := hw.2
    have hw : L.length ≤ cc := hw.1
    have e1 : Nat.ble L.length cc = true := by rw [Nat.ble_eq]; omega
    cases hfc : flagB cc with
    | true =>
      have hcc := flagB_t hfc
      have hx := hw2 hcc
      have hk0 : k = 0 := by omega
      subst hk0
      refine ⟨.l id g off 0 off (some cc), .inr ⟨id, g, off, off, some cc, by rw [htk, hx], by rw [htk, hx]; simp, h3, ?_⟩, .inr ⟨_, _, _, _, _, _, rfl, Nat.zero_le _, fun _ => rfl⟩, fun g0 N => hv_of fun q => ?_⟩
      · rw [List.drop_eq_nil_of_le (by omega)]
        exact ⟨fun hne => absurd rfl hne, fun i v hv => by simp at hv⟩
      · unfold slLoV
        simp only [vL_l, vI_i, natK_cast, e0, ifK_true]
        show boolK (flagB cc) (fun _ => ifK (Nat.beq L.length 0) fun _ => q (.l id g off 0 off (some cc))) _ = _
        rw [hfc, hx]; rfl
    | false =>
    have hcM := flagB_f hfc
    have eM : Nat.ble (Nat.succ cc) 18446744073709551616 = true := by rw [Nat.ble_eq]; exact hcM
    by_cases hkc : k = cc
    · have hx : L.length = k := by omega
      refine ⟨.l id g off 0 fin (some 0), .inr ⟨id, g, off, fin, some 0, by rw [htk, hx]; simp, by rw [htk, hx]; simp; omega, h3, ?_⟩, .inr ⟨_, _, _, _, _, _, rfl, Nat.le_refl _, fun _ => rfl⟩, fun g0 N => hv_of fun q => ?_⟩
      · rw [List.drop_eq_nil_of_le (by omega)]
        exact ⟨fun hne => absurd rfl hne, fun i v hv => by simp at hv⟩
      · unfold slLoV
        simp only [vL_l, vI_i, natK_cast, e0, ifK_true]
        show boolK (flagB cc) _ (fun _ => sliceC n id g off L.length fin cc k L.length fun v => q v) = _
        rw [hfc, boolK_false]
        unfold sliceC
        rw [eM, ifK_true]
        have e2 : Nat.beq k cc = true := by rw [hkc]; exact Nat.beq_refl _
        rw [e1, ifK_true, e2]; rfl
    · refine ⟨.l id g (off + k * n) (L.length - k) fin (some (cc - k)), .inr ⟨id, g, off + k * n, fin, some (cc - k), by rw [htk], by rw [htk]; omega, h3, row_lo hc r⟩, .inr ⟨_, _, _, _, _, _, rfl, by show L.length - k ≤ cc - k; omega, fun h => absurd hcM (by omega)⟩, fun g0 N => hv_of fun q => ?_⟩
      unfold slLoV
      simp only [vL_l, vI_i, natK_cast, e0, ifK_true]
      show boolK (flagB cc) _ (fun _ => sliceC n id g off L.length fin cc k L.length fun v => q v) = _
      rw [hfc, boolK_false, sliceC_mid hcM (by omega) (by omega)]
/-- the cells that are appended -/
theorem new_ss (a : Ss n c h v L) (hc : ∀ e, (c e).length = n) (hn : 1 ≤ n) (k : Nat → List V → Bool) : newCells n v h k = k L.length (L.flatMap c) := by
  rcases a with ⟨rfl, rfl⟩ | ⟨id, g, off, fin, cap, rfl, hf, hl, r⟩
  · rfl
  · have hlen := fm_len hc L
    cases hm : L.length with
    | zero =>
      have : L = [] := List.eq_nil_of_length_eq_zero hm
      subst this; rfl
    | succ m =>
      rw [hm] at hlen hf
      show loadN h id g off fin (Nat.mul (m + 1) n) (fun vs => k (m + 1) vs) = _
      have hne : L.flatMap c ≠ [] := by
        intro e; rw [e] at hlen
        have h3 : (m + 1) * n = 0 := hlen.symm
        rw [Nat.add_mul] at h3; omega
      rw [show Nat.mul (m + 1) n = (L.flatMap c).length by rw [hlen]; rfl, loadN_row r rfl hne (by rw [hlen]; omega)]
end
end Go.Ev

set_option maxRecDepth 100000
set_option maxHeartbeats 8000000
set_option linter.all false
namespace Go.Proofs.Ytjlhfoadabkahaa
open Go Go.Ev
def kC (s : List UInt8) : List V := [sv s]
def sortK (E : En) : List (List UInt8) := (keysE E).mergeSort leB
theorem map_kC : ∀ L : List (List UInt8), L.flatMap kC = L.map sv
  | [] => rfl
  | a :: L => by rw [List.flatMap_cons, map_kC L]; rfl
theorem sorted_ok {h : H} {q id : B} {E : En} (r : Row h q 0 0 [.m id]) (m : MapB h id E) (hk : ∀ p ∈ E, p.1.length ≤ 1048576) (hE : E.length ≤ 10000) (hf : B.val h.floor ≤ B.val h.next) :
    FnOk Try.prog 61 [.f 85 [.p q 0 0 1]] h fun y h' => Ss 1 kC h' y (sortK E) ∧ Stay nowhere h h' ∧ ∀ p, isOf y p → B.val h.next ≤ B.val p := by
  have main : ∀ ρ w w0 args, LRel ρ [.f 85 [.p q 0 0 1]] args → HRel ρ h w w0 →
      (callFunc 61 args.toArray).run Try.prog w = .ok (.enter 61 args.toArray) w ∧ Calls Try.prog 61 args.toArray w fun e w' => ∃ v, e = .returned v ∧
        w'.ownsRow w.heap.size 9 1 v E.length ((sortK E).map encStr) ∧ (E = [] → v = .slice none 0 0) ∧ Go.RowKit.Below w.heap.size w w' := by
    intro ρ w w0 args hl R
    obtain ⟨x, rfl, arr, rfl, hp⟩ : ∃ x, args = [x] ∧ ∃ arr, x = .func (.func 85) #[] arr ∧ LRel ρ [.p q 0 0 1] arr.toList := by
      cases args with
      | nil => cases hl
      | cons x r =>
        obtain ⟨⟨arr, h1, h2⟩, hr⟩ := hl
        cases r with
        | cons _ _ => cases hr
        | nil => exact ⟨x, rfl, arr, h1, h2⟩
    obtain ⟨L, hL, rfl, hs⟩ : ∃ L, ρ q 0 = some L ∧ arr = #[.pointer (some ⟨L.b, 0, none⟩)] ∧ L.s = 0 ∧ 1 ≤ L.e := by
      obtain ⟨al⟩ := arr
      cases al with
      | nil => cases hp
      | cons y r =>
        obtain ⟨⟨L, h1, h2, h3, h4⟩, hr⟩ := hp
        cases r with
        | cons _ _ => cases hr
        | nil =>
          have hs : L.s = 0 := by omega
          refine ⟨L, h1, ?_, hs, h4⟩
          rw [h2, hs]
    obtain ⟨v1, e1, g1⟩ := load1_ok (h := h) (id := q) (g := 0) (off := 0) (fin := 1) (k := fun _ => true) (by rw [load1_cell (r.2 0 (.m id) rfl) (by omega)])
    have ev1 : v1 = .m id := by
      have := e1 fun u => @decide (u = .m id) (Classical.propDecidable _)
      rw [load1_cell (r.2 0 (.m id) rfl) (by omega)] at this
      simp at this
      exact this
    subst ev1
    obtain ⟨x, hx, hcell⟩ := g1 ρ w w0 L R hL (by omega) hs.2
    obtain ⟨LM, hLM, rfl⟩ := hx
    obtain ⟨blk, m1, m2, m3⟩ := m.blk
    obtain ⟨es, clock, w1, ps, w2, w3⟩ := R.mp id LM blk hLM m1 m2
    obtain rfl := RdP.uniq w2 m3
    obtain ⟨l, l1, l2⟩ := w3.rel
    have hes : es.size = E.length := by
      have h1 := l2.length
      have h2 := l1.length_eq
      unfold toP at h1
      rw [List.length_map] at h1
      simp at h2
      omega
    obtain ⟨D0, d1, d2, d3⟩ := ownsMap_of w1 w3 (fun p hp => Nat.le_trans (hk p hp) (by decide)) (by rw [hes]; exact Nat.le_trans hE (by decide))
    have hbl : L.b < w.heap.size := by obtain ⟨_, _, _, a3, _⟩ := R.loc _ _ _ hL; exact a3
    have hseq : SeqGives Fence.wide 2 Try.prog 85 #[.pointer (some ⟨L.b, 0, none⟩)] encStr (fun ss => ss.Perm (strKeys D0)) (Go.Maps.size D0) w :=
      AnyZ.keys_gives (ρ := Try.keys62_ren) { Try.keys62 with } Fence.wide 2 trivial rfl (by omega) L.b LM.b es.size D0 _ hbl (by rw [hs.1] at hcell; exact hcell) d1
    have := AnyZ.sorted_in Try.sorted61 Fence.wide 5 trivial trivial trivial trivial rfl (by omega) (sortsC _) (enters_of Try.func84 (by kernel_rfl) rfl) 85 #[.pointer (some ⟨L.b, 0, none⟩)] trivial (enters_of Try.func85 (by kernel_rfl) rfl) _ (Go.Maps.size D0) (by rw [d3]; exact Nat.le_trans hE (by decide)) (by rw [d3]; omega) w hseq
    refine ⟨enters_of Try.func61 (by kernel_rfl) rfl _ _, (callsIn_wide.1 this).mono fun e w' ⟨v, ss, e1, hS, hrow, hnil, hb⟩ => ⟨v, e1, ?_, fun hE => hnil.2 ?_, hb⟩⟩
    · have hp : ss.Perm (keysE E) := hS.trans d2
      have hl : ss.length = E.length := by rw [hp.length_eq]; unfold keysE; rw [List.length_map]
      rw [hl, mergeSort_of_perm hp] at hrow
      exact hrow
    · have hp : ss.Perm (keysE E) := hS.trans d2
      rw [hE] at hp
      exact List.perm_nil.1 hp
  by_cases hz : E = []
  · subst hz
    refine ⟨.l0, h, ⟨KeepF.refl h, Nat.le_refl _, fun ρ w w0 args hl R => ?_⟩, .inl ⟨rfl, by unfold sortK; simp [keysE]⟩, Stay.refl _ _, fun p ⟨_, _, _, _, _, e⟩ => by cases e⟩
    obtain ⟨c1, c2⟩ := main ρ w w0 args hl R
    refine ⟨c1, c2.mono fun e w' ⟨v, e1, hr, hn, hb⟩ => ⟨v, e1, ρ, Ext.refl _ ρ, hn rfl, R.grow hb.block hb.size hb.tape hb.os hb.output⟩⟩
  · obtain ⟨h', a1, a2, a3, blk, b1, b2, b3, b4, b5, b6, b7⟩ := alloc_new 9 ((sortK E).map sv) h (by rw [List.length_map]; unfold sortK; rw [List.length_mergeSort]; unfold keysE; rw [List.length_map]; omega)
    obtain ⟨h2, c1, c2, c3, c4⟩ := adopt_ok (el := 9) (cs := (sortK E).map sv) (h := h) (k := fun _ _ => true) (by rw [a1])
    have e2 : h2 = h' := by
      have := c1 fun _ u => @decide (u = h') (Classical.propDecidable _)
      rw [a1] at this
      simp at this
      exact this
    subst e2
    have hlen : (sortK E).length = E.length := by unfold sortK; rw [List.length_mergeSort]; unfold keysE; rw [List.length_map]
    have o : Ev.Own h2 h.next ((sortK E).map sv) := ⟨blk, b1, b3, b2, b6, by rw [a2.floor]; exact hf, by omega, b7⟩
    refine ⟨.l h.next 0 0 E.length E.length none, h2, ⟨c2, c3, fun ρ w w0 args hl R => ?_⟩, Ss.lit o (map_kC _).symm (fun _ => rfl) hlen.symm (by omega), a2, fun p ⟨_, _, _, _, _, e⟩ => by cases e; exact Nat.le_refl _⟩
    obtain ⟨d1, d2⟩ := main ρ w w0 args hl R
    refine ⟨d1, d2.mono fun e w' ⟨v, e1, hr, _, hb⟩ => ?_⟩
    have R' := R.grow hb.block hb.size hb.tape hb.os hb.output
    rcases hr.2 with ⟨_, h0⟩ | ⟨g, cap, cur, rfl, hg, hc, hn, hcap, hsz, htk⟩
    · exact absurd (List.length_eq_zero_iff.1 h0) hz
    have hval : ∀ (i : Nat) v x, ((sortK E).map sv)[i]? = some v → cur[i]? = some x → VRel ρ v x := by
      intro i v x hv hx
      have hi : i < (sortK E).length := by
        rcases Nat.lt_or_ge i (sortK E).length with h | h
        · exact h
        · rw [List.getElem?_eq_none (by rw [List.length_map]; exact h)] at hv; cases hv
      have h1 : ((sortK E).map encStr)[i]? = some x := by
        rw [← htk, List.getElem?_take_of_lt (by rw [Nat.mul_one, ← hlen]; exact hi)]
        simpa using hx
      rw [List.getElem?_map, List.getElem?_eq_getElem hi] at h1 hv
      cases hv
      cases h1
      exact srel_mk (by simp) (by simp)
    obtain ⟨ρ', q1, q2, q3⟩ := c4 ρ w' w0 cur g cur.size R' hc (fun id g' L hL e => by obtain ⟨_, _, _, a3, _⟩ := R.loc _ _ _ hL; omega) (Nat.le_trans R.siz hg) (by rw [List.length_map, hlen]; omega) rfl hval
    refine ⟨_, e1, ρ', q1, ⟨_, _, _, q2, rfl, hn, Nat.le_refl _, ?_, .inr rfl, fun d hd => (by cases hd), fun _ => .inr ⟨1, Nat.le_refl _, by omega, by show 0 - 0 + cap * 1 ≤ cur.size; omega⟩⟩, q3⟩
    show E.length ≤ ((sortK E).map sv).length
    rw [List.length_map, hlen]; exact Nat.le_refl _
theorem sorted_nil {h : H} {q : B} (r : Row h q 0 0 [.m0]) :
    FnOk Try.prog 61 [.f 85 [.p q 0 0 1]] h fun y h' => y = .l0 ∧ h' = h := by
  refine ⟨.l0, h, ⟨KeepF.refl h, Nat.le_refl _, fun ρ w w0 args hl R => ?_⟩, rfl, rfl⟩
  obtain ⟨x, rfl, arr, rfl, hp⟩ : ∃ x, args = [x] ∧ ∃ arr, x = .func (.func 85) #[] arr ∧ LRel ρ [.p q 0 0 1] arr.toList := by
    cases args with
    | nil => cases hl
    | cons x r =>
      obtain ⟨⟨arr, h1, h2⟩, hr⟩ := hl
      cases r with
      | cons _ _ => cases hr
      | nil => exact ⟨x, rfl, arr, h1, h2⟩
  obtain ⟨L, hL, rfl, hs⟩ : ∃ L, ρ q 0 = some L ∧ arr = #[.pointer (some ⟨L.b, 0, none⟩)] ∧ L.s = 0 ∧ 1 ≤ L.e := by
    obtain ⟨al⟩ := arr
    cases al with
    | nil => cases hp
    | cons y r =>
      obtain ⟨⟨L, h1, h2, h3, h4⟩, hr⟩ := hp
      cases r with
      | cons _ _ => cases hr
      | nil =>
        have hs : L.s = 0 := by omega
        refine ⟨L, h1, ?_, hs, h4⟩
        rw [h2, hs]
  obtain ⟨v1, e1, g1⟩ := load1_ok (h := h) (id := q) (g := 0) (off := 0) (fin := 1) (k := fun _ => true) (by rw [load1_cell (r.2 0 .m0 rfl) (by omega)])
  have ev1 : v1 = .m0 := by
    have := e1 fun u => @decide (u = .m0) (Classical.propDecidable _)
    rw [load1_cell (r.2 0 .m0 rfl) (by omega)] at this
    simp at this
    exact this
  subst ev1
  obtain ⟨x, hx, hcell⟩ := g1 ρ w w0 L R hL (by omega) hs.2
  have hx : x = .map none := hx
  subst hx
  have hbl : L.b < w.heap.size := by obtain ⟨_, _, _, a3, _⟩ := R.loc _ _ _ hL; exact a3
  have hseq : SeqGives Fence.wide 2 Try.prog 85 #[.pointer (some ⟨L.b, 0, none⟩)] encStr (fun ss : List (List UInt8) => ss = []) 0 w :=
    AnyZ.keys_gives_nil (ρ := Try.keys62_ren) { Try.keys62 with } Fence.wide 2 trivial rfl L.b w hbl (by rw [hs.1] at hcell; exact hcell)
  have := AnyZ.sorted_in Try.sorted61 Fence.wide 5 trivial trivial trivial trivial rfl (by omega) (sortsC _) (enters_of Try.func84 (by kernel_rfl) rfl) 85 #[.pointer (some ⟨L.b, 0, none⟩)] trivial (enters_of Try.func85 (by kernel_rfl) rfl) _ 0 (Nat.zero_le _) (by omega) w hseq
  exact ⟨enters_of Try.func61 (by kernel_rfl) rfl _ _, (callsIn_wide.1 this).mono fun e w' ⟨v, ss, e1, hS, hrow, hnil, hb⟩ => ⟨v, e1, ρ, Ext.refl _ ρ, hnil.2 hS, R.grow hb.block hb.size hb.tape hb.os hb.output⟩⟩
end Go.Proofs.Ytjlhfoadabkahaa

set_option linter.all false
namespace Go.Ev
open Go
abbrev Fi := List UInt8 × List UInt8
instance : Inhabited Fi := ⟨([], [])⟩
def fC (a : Fi) : List V := [sv a.1, sv a.2]
def lookR (L : List Fi) (k : List UInt8) : Option (List UInt8) := match L with
  | [] => none
  | a :: r => if a.1 = k then some a.2 else lookR r k
theorem lookR_c (a : Fi) (r : List Fi) (k : List UInt8) : lookR (a :: r) k = if a.1 = k then some a.2 else lookR r k := rfl
def wioR (L : List Fi) (k : List UInt8) : List Fi := L.filter fun a => !decide (a.1 = k)
/-- a file put in its place -/
def insR (L : List Fi) (f : Fi) : List Fi := match L with
  | [] => [f]
  | a :: r => if Op.bytesLess f.1 a.1 = true then f :: a :: r else a :: insR r f
theorem insR_c (a : Fi) (r : List Fi) (f : Fi) : insR (a :: r) f = if Op.bytesLess f.1 a.1 = true then f :: a :: r else a :: insR r f := rfl
def withR (L : List Fi) (f : Fi) : List Fi := insR (wioR L f.1) f
def usedR (L : List Fi) : Nat := (L.map fun a => a.2.length).sum
/-- an act of the document's shelf -/
structure DA where
  kind : Int
  name : List UInt8
  b : List UInt8
instance : Inhabited DA := ⟨⟨0, [], []⟩⟩
def dC (a : DA) : List V := [.i .i64 a.kind, sv a.name, sv a.b]
def doneR (L : List Fi) (a : DA) : List Fi :=
  if a.kind = 1 then withR L (a.name, a.b)
  else if a.kind = 2 then withR L (a.name, (lookR L a.name).getD [] ++ a.b)
  else if a.kind = 3 then (if a.name = a.b then L else withR (wioR L a.name) (a.b, (lookR L a.name).getD []))
  else wioR L a.name
/-- it may be done -/
def mayR (L : List Fi) (a : DA) : Prop := (a.kind = 2 ∨ (a.kind = 3 ∧ a.name ≠ a.b)) → ∃ b0, lookR L a.name = some b0 ∧ (a.kind = 2 → b0.length + a.b.length ≤ 1048576)
end Go.Ev

set_option maxRecDepth 1000000
set_option linter.all false
namespace Go.Proofs.Ytjlhfoadabkahaa
open Go Go.Ev
noncomputable abbrev s14_0 : CC := (CC.seq (CC.region [(wB 3 (doMove (tm 0))), (wB 4 (doCall 49 [(tm 3), (oN 1000000)])), (wB 5 (doBuild [(V.i IntKind.i64 (Int.ofNat 0)), V.m0, V.l0] [(Pt.mk 0 1 (tm 4))])), (wB 6 (doBox 76 (tm 5))), (wB 2 (doMove (tm 6)))]) CC.ret)
noncomputable abbrev b14 : CC := (CC.seq (CC.region [(wB 2 (doMove (O.c V.p0)))]) s14_0)
theorem c14 : compFn Try.prog 14 = ⟨7, b14, [(Rs.tmp (slOf 2))]⟩ := by kernel_rfl
noncomputable abbrev s49_0 : CC := (CC.seq (CC.region [(wB 5 (doMove (tm 0))), (wB 6 (doMove (tm 1))), (wB 7 (doMin (tm 5) (tm 6))), (wB 8 (doMax (oN 0) (tm 7))), (wB 4 (doMove (tm 8)))]) CC.ret)
noncomputable abbrev b49 : CC := (CC.seq (CC.region [(wB 4 (doMove (oN 0)))]) s49_0)
theorem c49 : compFn Try.prog 49 = ⟨9, b49, [(Rs.tmp (slOf 4))]⟩ := by kernel_rfl
noncomputable abbrev s50_0 : CC := (CC.seq (CC.region [(wB 2 (doMove (O.c (V.b Bool.false))))]) CC.ret)
noncomputable abbrev s50_1 : CC := (CC.cond (tm 12) s50_0 CC.skip)
noncomputable abbrev s50_2 : CC := (CC.seq (CC.region [(wB 5 (doMove (tm 0))), (wB 6 (doLenS (tm 5))), (wB 7 (bin2 fLss (tm 6) (oN 1))), (wB 8 (doMove (tm 7))), (wG 8 false 9 (doMove (tm 0))), (wG 8 false 10 (doLenS (tm 9))), (wG 8 false 11 (bin2 fGtr (tm 10) (oN 16))), (wB 12 (doPick (tm 8) (O.c (V.b Bool.true)) (tm 11)))]) s50_1)
noncomputable abbrev s50_3 : CC := (CC.cond (tm 16) CC.skip (CC.exit 0))
noncomputable abbrev s50_4 : CC := (CC.region [(wB 34 (doMove (tm 4))), (wB 35 (bin2 fEql (tm 34) (O.c (V.i IntKind.u8 (Int.ofNat 45))))), (wB 21 (doMove (tm 35)))])
noncomputable abbrev s50_5 : CC := (CC.cond (tm 21) CC.skip s50_4)
noncomputable abbrev s50_6 : CC := (CC.seq (CC.region [(wB 28 (doMove (tm 4))), (wB 29 (bin2 fLeq (O.c (V.i IntKind.u8 (Int.ofNat 48))) (tm 28))), (wB 30 (doMove (tm 29))), (wG 30 true 31 (doMove (tm 4))), (wG 30 true 32 (bin2 fLeq (tm 31) (O.c (V.i IntKind.u8 (Int.ofNat 57))))), (wB 33 (doPick (tm 30) (tm 32) (O.c (V.b Bool.false)))), (wB 21 (doMove (tm 33)))]) s50_5)
noncomputable abbrev s50_7 : CC := (CC.cond (tm 21) CC.skip s50_6)
noncomputable abbrev s50_8 : CC := (CC.seq (CC.region [(wB 22 (doMove (tm 4))), (wB 23 (bin2 fLeq (O.c (V.i IntKind.u8 (Int.ofNat 97))) (tm 22))), (wB 24 (doMove (tm 23))), (wG 24 true 25 (doMove (tm 4))), (wG 24 true 26 (bin2 fLeq (tm 25) (O.c (V.i IntKind.u8 (Int.ofNat 122))))), (wB 27 (doPick (tm 24) (tm 26) (O.c (V.b Bool.false)))), (wB 21 (doMove (tm 27)))]) s50_7)
noncomputable abbrev s50_9 : CC := (CC.seq (CC.region [(wB 2 (doMove (O.c (V.b Bool.false))))]) CC.ret)
noncomputable abbrev s50_10 : CC := (CC.cond (tm 21) CC.skip s50_9)
noncomputable abbrev s50_11 : CC := (CC.seq s50_8 s50_10)
noncomputable abbrev s50_12 : CC := (CC.block 2 s50_11)
noncomputable abbrev s50_13 : CC := (CC.seq (CC.region [(wB 18 (doMove (tm 0))), (wB 19 (doMove (tm 3))), (wB 20 (doSIndex (tm 18) (tm 19))), (wB 4 (doMove (tm 20)))]) s50_12)
noncomputable abbrev s50_14 : CC := (CC.seq (CC.region [(wB 17 (doMove (tm 15))), (wB 3 (doMove (tm 17)))]) s50_13)
noncomputable abbrev s50_15 : CC := (CC.block 1 s50_14)
noncomputable abbrev s50_16 : CC := (CC.region [(wB 36 (bin2 fAdd (tm 15) (oN 1))), (wB 15 (doMove (tm 36)))])
noncomputable abbrev s50_17 : CC := (CC.seq s50_15 s50_16)
noncomputable abbrev s50_18 : CC := (CC.seq s50_3 s50_17)
noncomputable abbrev l50_0 : CC := (CC.seq (CC.region [(wB 16 (bin2 fLss (tm 15) (tm 14)))]) s50_18)
noncomputable abbrev s50_19 : CC := (CC.loop l50_0)
noncomputable abbrev s50_20 : CC := (CC.block 0 s50_19)
noncomputable abbrev s50_21 : CC := (CC.seq (CC.region [(wB 13 (doMove (tm 0))), (wB 14 (doLenS (tm 13))), (wB 15 (doMove (oN 0)))]) s50_20)
noncomputable abbrev s50_22 : CC := (CC.seq (CC.region [(wB 2 (doMove (O.c (V.b Bool.true))))]) CC.ret)
noncomputable abbrev s50_23 : CC := (CC.seq s50_21 s50_22)
noncomputable abbrev s50_24 : CC := (CC.seq s50_2 s50_23)
noncomputable abbrev b50 : CC := (CC.seq (CC.region [(wB 2 (doMove (O.c (V.b Bool.false))))]) s50_24)
theorem c50 : compFn Try.prog 50 = ⟨37, b50, [(Rs.tmp (slOf 2))]⟩ := by kernel_rfl
noncomputable abbrev s16_0 : CC := (CC.seq (CC.region [(wB 6 (doMove (oN 10)))]) CC.ret)
noncomputable abbrev s16_1 : CC := (CC.cond (tm 11) s16_0 CC.skip)
noncomputable abbrev s16_2 : CC := (CC.seq (CC.region [(wB 9 (doMove (tm 1))), (wB 10 (doCall 50 [(tm 9)])), (wB 11 (doNot (tm 10)))]) s16_1)
noncomputable abbrev s16_3 : CC := (CC.seq (CC.region [(wB 6 (doMove (oN 14)))]) CC.ret)
noncomputable abbrev s16_4 : CC := (CC.cond (tm 21) s16_3 CC.skip)
noncomputable abbrev s16_5 : CC := (CC.seq (CC.region [(wB 21 (doMove (tm 8)))]) s16_4)
noncomputable abbrev s16_6 : CC := (CC.seq (CC.region [(wB 13 (doMove (tm 0))), (wB 14 (doNilCheck (tm 13))), (wB 15 (doFieldAddr 1 (tm 14))), (wB 16 (doLoad (tm 15))), (wB 17 (doMove (tm 1))), (wB 18 (doLookup none V.l0 Bool.true (tm 16) (tm 17))), (wB 12 (doMove (tm 18))), (wB 19 (doExtract 0 (tm 12))), (wB 20 (doExtract 1 (tm 12))), (wB 7 (doMove (tm 19))), (wB 8 (doMove (tm 20)))]) s16_5)
noncomputable abbrev s16_7 : CC := (CC.seq (CC.region [(wB 6 (doMove (oN 15)))]) CC.ret)
noncomputable abbrev s16_8 : CC := (CC.cond (tm 34) s16_7 CC.skip)
noncomputable abbrev s16_9 : CC := (CC.seq (CC.region [(wB 22 (doMove (tm 0))), (wB 23 (doNilCheck (tm 22))), (wB 24 (doFieldAddr 1 (tm 23))), (wB 25 (doLoad (tm 24))), (wB 26 (doMapLen (tm 25))), (wB 27 (bin2 fGeq (tm 26) (oN 60))), (wB 28 (doMove (tm 27))), (wG 28 false 29 (doMove (tm 2))), (wG 28 false 30 (doLenS (tm 29))), (wG 28 false 31 (doMove (tm 0))), (wG 28 false 32 (doCall 48 [(tm 31)])), (wG 28 false 33 (bin2 fGtr (tm 30) (tm 32))), (wB 34 (doPick (tm 28) (O.c (V.b Bool.true)) (tm 33)))]) s16_8)
noncomputable abbrev s16_10 : CC := (CC.region [(wB 40 (doMove (tm 0))), (wB 41 (doMakeMap none)), (wB 42 (doNilCheck (tm 40))), (wB 43 (doFieldAddr 1 (tm 42))), (CO.mk G.none D.none Bool.true (CR.mk (doStore 1 (tm 43) (tm 41))))])
noncomputable abbrev s16_11 : CC := (CC.cond (tm 39) s16_10 CC.skip)
noncomputable abbrev s16_12 : CC := (CC.seq (CC.region [(wB 35 (doMove (tm 0))), (wB 36 (doNilCheck (tm 35))), (wB 37 (doFieldAddr 1 (tm 36))), (wB 38 (doLoad (tm 37))), (wB 39 (doNil vMN Bool.false (tm 38) (O.c V.m0)))]) s16_11)
noncomputable abbrev s16_13 : CC := (CC.seq (CC.region [(wB 6 (doMove (oN 0)))]) CC.ret)
noncomputable abbrev s16_14 : CC := (CC.seq (CC.region [(wB 51 (doMove (tm 0))), (wB 52 (doMove (tm 0))), (wB 53 (doNilCheck (tm 52))), (wB 54 (doFieldAddr 2 (tm 53))), (wB 55 (doLoad (tm 54))), (wB 56 (doMove (tm 1))), (wB 57 (doBuild [(V.i IntKind.i64 (Int.ofNat 0)), (V.s 0 0), (V.s 0 0), (V.i IntKind.i64 (Int.ofNat 0)), V.l0, (V.b Bool.false)] [(Pt.mk 0 1 (oN 1)), (Pt.mk 1 1 (tm 56))])), (wB 58 (doBuildSlice 84 1 [(V.i IntKind.i64 (Int.ofNat 0)), (V.s 0 0), (V.s 0 0), (V.i IntKind.i64 (Int.ofNat 0)), V.l0, (V.b Bool.false)] [(Pt.mk 0 6 (tm 57))])), (wB 59 (doAppend 84 6 (tm 55) (tm 58))), (wB 60 (doNilCheck (tm 51))), (wB 61 (doFieldAddr 2 (tm 60))), (CO.mk G.none D.none Bool.true (CR.mk (doStore 1 (tm 61) (tm 59))))]) s16_13)
noncomputable abbrev s16_15 : CC := (CC.seq (CC.region [(wB 44 (doMove (tm 0))), (wB 45 (doNilCheck (tm 44))), (wB 46 (doFieldAddr 1 (tm 45))), (wB 47 (doLoad (tm 46))), (wB 48 (doMove (tm 1))), (wB 49 (doMove (tm 2))), (wB 50 (doS2B 5 (tm 49))), (CO.mk G.none D.none Bool.true (CR.mk (doMapSet none (tm 47) (tm 48) (tm 50))))]) s16_14)
noncomputable abbrev s16_16 : CC := (CC.seq s16_12 s16_15)
noncomputable abbrev s16_17 : CC := (CC.seq s16_9 s16_16)
noncomputable abbrev s16_18 : CC := (CC.seq s16_6 s16_17)
noncomputable abbrev s16_19 : CC := (CC.seq s16_2 s16_18)
noncomputable abbrev b16 : CC := (CC.seq (CC.region [(wB 6 (doMove (oN 0)))]) s16_19)
theorem c16 : compFn Try.prog 16 = ⟨62, b16, [(Rs.tmp (slOf 6))]⟩ := by kernel_rfl
noncomputable abbrev s18_0 : CC := (CC.seq (CC.region [(wB 6 (doMove (oN 14)))]) CC.ret)
noncomputable abbrev s18_1 : CC := (CC.cond (tm 19) s18_0 CC.skip)
noncomputable abbrev s18_2 : CC := (CC.seq (CC.region [(wB 18 (doMove (tm 8))), (wB 19 (doNot (tm 18)))]) s18_1)
noncomputable abbrev s18_3 : CC := (CC.seq (CC.region [(wB 6 (doMove (oN 15)))]) CC.ret)
noncomputable abbrev s18_4 : CC := (CC.cond (tm 24) s18_3 CC.skip)
noncomputable abbrev s18_5 : CC := (CC.seq (CC.region [(wB 20 (doMove (tm 2))), (wB 21 (doLenS (tm 20))), (wB 22 (doMove (tm 0))), (wB 23 (doCall 48 [(tm 22)])), (wB 24 (bin2 fGtr (tm 21) (tm 23)))]) s18_4)
noncomputable abbrev s18_6 : CC := (CC.seq (CC.region [(wB 6 (doMove (oN 0)))]) CC.ret)
noncomputable abbrev s18_7 : CC := (CC.seq (CC.region [(wB 33 (doMove (tm 0))), (wB 34 (doMove (tm 0))), (wB 35 (doNilCheck (tm 34))), (wB 36 (doFieldAddr 2 (tm 35))), (wB 37 (doLoad (tm 36))), (wB 38 (doMove (tm 1))), (wB 39 (doMove (tm 7))), (wB 40 (doLen (tm 39))), (wB 41 (doBuild [(V.i IntKind.i64 (Int.ofNat 0)), (V.s 0 0), (V.s 0 0), (V.i IntKind.i64 (Int.ofNat 0)), V.l0, (V.b Bool.false)] [(Pt.mk 0 1 (oN 2)), (Pt.mk 1 1 (tm 38)), (Pt.mk 3 1 (tm 40))])), (wB 42 (doBuildSlice 84 1 [(V.i IntKind.i64 (Int.ofNat 0)), (V.s 0 0), (V.s 0 0), (V.i IntKind.i64 (Int.ofNat 0)), V.l0, (V.b Bool.false)] [(Pt.mk 0 6 (tm 41))])), (wB 43 (doAppend 84 6 (tm 37) (tm 42))), (wB 44 (doNilCheck (tm 33))), (wB 45 (doFieldAddr 2 (tm 44))), (CO.mk G.none D.none Bool.true (CR.mk (doStore 1 (tm 45) (tm 43))))]) s18_6)
noncomputable abbrev s18_8 : CC := (CC.seq (CC.draws [(uB 25 (doMove (tm 0))), (uB 26 (doNilCheck (tm 25))), (uB 27 (doFieldAddr 1 (tm 26))), (uB 28 (doLoad (tm 27))), (uB 29 (doMove (tm 1))), (uB 30 (doMove (tm 7))), (uB 31 (doMove (tm 2))), (uB 32 (doAppendS 5 (tm 30) (tm 31))), (CO.mk G.none D.none Bool.true (CR.mk (doMapSet none (tm 28) (tm 29) (tm 32))))]) s18_7)
noncomputable abbrev s18_9 : CC := (CC.seq s18_5 s18_8)
noncomputable abbrev s18_10 : CC := (CC.seq s18_2 s18_9)
noncomputable abbrev s18_11 : CC := (CC.seq (CC.region [(wB 10 (doMove (tm 0))), (wB 11 (doNilCheck (tm 10))), (wB 12 (doFieldAddr 1 (tm 11))), (wB 13 (doLoad (tm 12))), (wB 14 (doMove (tm 1))), (wB 15 (doLookup none V.l0 Bool.true (tm 13) (tm 14))), (wB 9 (doMove (tm 15))), (wB 16 (doExtract 0 (tm 9))), (wB 17 (doExtract 1 (tm 9))), (wB 7 (doMove (tm 16))), (wB 8 (doMove (tm 17)))]) s18_10)
noncomputable abbrev b18 : CC := (CC.seq (CC.region [(wB 6 (doMove (oN 0)))]) s18_11)
theorem c18 : compFn Try.prog 18 = ⟨46, b18, [(Rs.tmp (slOf 6))]⟩ := by kernel_rfl
noncomputable abbrev s20_0 : CC := (CC.seq (CC.region [(wB 6 (doMove (oN 10)))]) CC.ret)
noncomputable abbrev s20_1 : CC := (CC.cond (tm 12) s20_0 CC.skip)
noncomputable abbrev s20_2 : CC := (CC.seq (CC.region [(wB 10 (doMove (tm 2))), (wB 11 (doCall 50 [(tm 10)])), (wB 12 (doNot (tm 11)))]) s20_1)
noncomputable abbrev s20_3 : CC := (CC.seq (CC.region [(wB 6 (doMove (oN 14)))]) CC.ret)
noncomputable abbrev s20_4 : CC := (CC.cond (tm 23) s20_3 CC.skip)
noncomputable abbrev s20_5 : CC := (CC.seq (CC.region [(wB 22 (doMove (tm 8))), (wB 23 (doNot (tm 22)))]) s20_4)
noncomputable abbrev s20_6 : CC := (CC.region [(wB 46 (doMove (tm 0))), (wB 47 (doNilCheck (tm 46))), (wB 48 (doFieldAddr 1 (tm 47))), (wB 49 (doLoad (tm 48))), (wB 50 (doMove (tm 2))), (wB 51 (doMove (tm 7))), (CO.mk G.none D.none Bool.true (CR.mk (doMapSet none (tm 49) (tm 50) (tm 51))))])
noncomputable abbrev s20_7 : CC := (CC.seq (CC.region [(wB 41 (doMove (tm 0))), (wB 42 (doNilCheck (tm 41))), (wB 43 (doFieldAddr 1 (tm 42))), (wB 44 (doLoad (tm 43))), (wB 45 (doMove (tm 1))), (CO.mk G.none D.none Bool.true (CR.mk (doMapDel none (tm 44) (tm 45))))]) s20_6)
noncomputable abbrev s20_8 : CC := (CC.seq (CC.region [(wB 31 (doMove (tm 0))), (wB 32 (doNilCheck (tm 31))), (wB 33 (doFieldAddr 1 (tm 32))), (wB 34 (doLoad (tm 33))), (wB 35 (doMove (tm 2))), (wB 36 (doLookup none V.l0 Bool.true (tm 34) (tm 35))), (wB 30 (doMove (tm 36))), (wB 37 (doExtract 0 (tm 30))), (wB 38 (doExtract 1 (tm 30))), (wB 39 (doFieldAddr 4 (tm 9))), (CO.mk G.none D.none Bool.true (CR.mk (doStore 1 (tm 39) (tm 37)))), (wB 40 (doFieldAddr 5 (tm 9))), (CO.mk G.none D.none Bool.true (CR.mk (doStore 1 (tm 40) (tm 38))))]) s20_7)
noncomputable abbrev s20_9 : CC := (CC.cond (tm 29) s20_8 CC.skip)
noncomputable abbrev s20_10 : CC := (CC.seq (CC.region [(wB 27 (doMove (tm 1))), (wB 28 (doMove (tm 2))), (wB 29 (doSCmp (fun a b c d => !eqS a b c d) (tm 27) (tm 28)))]) s20_9)
noncomputable abbrev s20_11 : CC := (CC.seq (CC.region [(wB 6 (doMove (oN 0)))]) CC.ret)
noncomputable abbrev s20_12 : CC := (CC.seq (CC.draws [(uB 52 (doMove (tm 0))), (uB 53 (doMove (tm 0))), (uB 54 (doNilCheck (tm 53))), (uB 55 (doFieldAddr 2 (tm 54))), (uB 56 (doLoad (tm 55))), (uB 57 (doLoadA 6 (tm 9))), (uB 58 (doBuildSlice 84 1 [(V.i IntKind.i64 (Int.ofNat 0)), (V.s 0 0), (V.s 0 0), (V.i IntKind.i64 (Int.ofNat 0)), V.l0, (V.b Bool.false)] [(Pt.mk 0 6 (tm 57))])), (wB 59 (doAppend 84 6 (tm 56) (tm 58))), (wB 60 (doNilCheck (tm 52))), (uB 61 (doFieldAddr 2 (tm 60))), (CO.mk G.none D.none Bool.true (CR.mk (doStore 1 (tm 61) (tm 59))))]) s20_11)
noncomputable abbrev s20_13 : CC := (CC.seq s20_10 s20_12)
noncomputable abbrev s20_14 : CC := (CC.seq (CC.region [(wB 24 (doMove (tm 2))), (wB 25 (doMove (tm 1))), (wB 26 (doBuild [(V.i IntKind.i64 (Int.ofNat 0)), (V.s 0 0), (V.s 0 0), (V.i IntKind.i64 (Int.ofNat 0)), V.l0, (V.b Bool.false)] [(Pt.mk 0 1 (oN 3)), (Pt.mk 1 1 (tm 24)), (Pt.mk 2 1 (tm 25))])), (wB 9 (doAlloc 84 [(V.i IntKind.i64 (Int.ofNat 0)), (V.s 0 0), (V.s 0 0), (V.i IntKind.i64 (Int.ofNat 0)), V.l0, (V.b Bool.false)])), (CO.mk G.none D.none Bool.true (CR.mk (doStore 6 (tm 9) (tm 26))))]) s20_13)
noncomputable abbrev s20_15 : CC := (CC.seq s20_5 s20_14)
noncomputable abbrev s20_16 : CC := (CC.seq (CC.region [(wB 14 (doMove (tm 0))), (wB 15 (doNilCheck (tm 14))), (wB 16 (doFieldAddr 1 (tm 15))), (wB 17 (doLoad (tm 16))), (wB 18 (doMove (tm 1))), (wB 19 (doLookup none V.l0 Bool.true (tm 17) (tm 18))), (wB 13 (doMove (tm 19))), (wB 20 (doExtract 0 (tm 13))), (wB 21 (doExtract 1 (tm 13))), (wB 7 (doMove (tm 20))), (wB 8 (doMove (tm 21)))]) s20_15)
noncomputable abbrev s20_17 : CC := (CC.seq s20_2 s20_16)
noncomputable abbrev b20 : CC := (CC.seq (CC.region [(wB 6 (doMove (oN 0)))]) s20_17)
theorem c20 : compFn Try.prog 20 = ⟨62, b20, [(Rs.tmp (slOf 6))]⟩ := by kernel_rfl
noncomputable abbrev s22_0 : CC := (CC.seq (CC.region [(wB 4 (doMove (oN 14)))]) CC.ret)
noncomputable abbrev s22_1 : CC := (CC.cond (tm 17) s22_0 CC.skip)
noncomputable abbrev s22_2 : CC := (CC.seq (CC.region [(wB 16 (doMove (tm 6))), (wB 17 (doNot (tm 16)))]) s22_1)
noncomputable abbrev s22_3 : CC := (CC.seq (CC.region [(wB 4 (doMove (oN 0)))]) CC.ret)
noncomputable abbrev s22_4 : CC := (CC.seq (CC.region [(wB 23 (doMove (tm 0))), (wB 24 (doMove (tm 0))), (wB 25 (doNilCheck (tm 24))), (wB 26 (doFieldAddr 2 (tm 25))), (wB 27 (doLoad (tm 26))), (wB 28 (doMove (tm 1))), (wB 29 (doMove (tm 5))), (wB 30 (doBuild [(V.i IntKind.i64 (Int.ofNat 0)), (V.s 0 0), (V.s 0 0), (V.i IntKind.i64 (Int.ofNat 0)), V.l0, (V.b Bool.false)] [(Pt.mk 0 1 (oN 4)), (Pt.mk 1 1 (tm 28)), (Pt.mk 4 1 (tm 29)), (Pt.mk 5 1 (O.c (V.b Bool.true)))])), (wB 31 (doBuildSlice 84 1 [(V.i IntKind.i64 (Int.ofNat 0)), (V.s 0 0), (V.s 0 0), (V.i IntKind.i64 (Int.ofNat 0)), V.l0, (V.b Bool.false)] [(Pt.mk 0 6 (tm 30))])), (wB 32 (doAppend 84 6 (tm 27) (tm 31))), (wB 33 (doNilCheck (tm 23))), (wB 34 (doFieldAddr 2 (tm 33))), (CO.mk G.none D.none Bool.true (CR.mk (doStore 1 (tm 34) (tm 32))))]) s22_3)
noncomputable abbrev s22_5 : CC := (CC.seq (CC.region [(wB 18 (doMove (tm 0))), (wB 19 (doNilCheck (tm 18))), (wB 20 (doFieldAddr 1 (tm 19))), (wB 21 (doLoad (tm 20))), (wB 22 (doMove (tm 1))), (CO.mk G.none D.none Bool.true (CR.mk (doMapDel none (tm 21) (tm 22))))]) s22_4)
noncomputable abbrev s22_6 : CC := (CC.seq s22_2 s22_5)
noncomputable abbrev s22_7 : CC := (CC.seq (CC.region [(wB 8 (doMove (tm 0))), (wB 9 (doNilCheck (tm 8))), (wB 10 (doFieldAddr 1 (tm 9))), (wB 11 (doLoad (tm 10))), (wB 12 (doMove (tm 1))), (wB 13 (doLookup none V.l0 Bool.true (tm 11) (tm 12))), (wB 7 (doMove (tm 13))), (wB 14 (doExtract 0 (tm 7))), (wB 15 (doExtract 1 (tm 7))), (wB 5 (doMove (tm 14))), (wB 6 (doMove (tm 15)))]) s22_6)
noncomputable abbrev b22 : CC := (CC.seq (CC.region [(wB 4 (doMove (oN 0)))]) s22_7)
theorem c22 : compFn Try.prog 22 = ⟨35, b22, [(Rs.tmp (slOf 4))]⟩ := by kernel_rfl
noncomputable abbrev b24 : CC := (CC.region [(wB 2 (doMove (tm 0))), (wB 3 (doNilCheck (tm 2))), (wB 4 (doFieldAddr 2 (tm 3))), (CO.mk G.none D.none Bool.true (CR.mk (doStore 1 (tm 4) (O.c V.l0))))])
theorem c24 : compFn Try.prog 24 = ⟨5, b24, []⟩ := by kernel_rfl
noncomputable abbrev s31_0 : CC := (CC.seq (CC.region [(wB 4 (doMove (O.c (V.s 0 0)))), (wB 5 (doMove (oN 14)))]) CC.ret)
noncomputable abbrev s31_1 : CC := (CC.cond (tm 18) s31_0 CC.skip)
noncomputable abbrev s31_2 : CC := (CC.seq (CC.region [(wB 17 (doMove (tm 7))), (wB 18 (doNot (tm 17)))]) s31_1)
noncomputable abbrev s31_3 : CC := (CC.seq (CC.region [(wB 19 (doMove (tm 6))), (wB 20 (doB2S (tm 19))), (wB 4 (doMove (tm 20))), (wB 5 (doMove (oN 0)))]) CC.ret)
noncomputable abbrev s31_4 : CC := (CC.seq s31_2 s31_3)
noncomputable abbrev s31_5 : CC := (CC.seq (CC.region [(wB 9 (doMove (tm 0))), (wB 10 (doNilCheck (tm 9))), (wB 11 (doFieldAddr 1 (tm 10))), (wB 12 (doLoad (tm 11))), (wB 13 (doMove (tm 1))), (wB 14 (doLookup none V.l0 Bool.true (tm 12) (tm 13))), (wB 8 (doMove (tm 14))), (wB 15 (doExtract 0 (tm 8))), (wB 16 (doExtract 1 (tm 8))), (wB 6 (doMove (tm 15))), (wB 7 (doMove (tm 16)))]) s31_4)
noncomputable abbrev b31 : CC := (CC.seq (CC.region [(wB 4 (doMove (O.c (V.s 0 0)))), (wB 5 (doMove (oN 0)))]) s31_5)
theorem c31 : compFn Try.prog 31 = ⟨21, b31, [(Rs.tmp (slOf 4)), (Rs.tmp (slOf 5))]⟩ := by kernel_rfl
noncomputable abbrev s34_0 : CC := (CC.seq (CC.region [(wB 3 (doMove (tm 0))), (wB 4 (doNilCheck (tm 3))), (wB 5 (doFieldAddr 2 (tm 4))), (wB 6 (doLoad (tm 5))), (wB 7 (doLen (tm 6))), (wB 2 (doMove (tm 7)))]) CC.ret)
noncomputable abbrev b34 : CC := (CC.seq (CC.region [(wB 2 (doMove (oN 0)))]) s34_0)
theorem c34 : compFn Try.prog 34 = ⟨8, b34, [(Rs.tmp (slOf 2))]⟩ := by kernel_rfl
noncomputable abbrev s48_0 : CC := (CC.seq (CC.draws [(uB 3 (doMove (tm 0))), (uB 4 (doNilCheck (tm 3))), (uB 5 (doFieldAddr 0 (tm 4))), (uB 6 (doLoad (tm 5))), (uB 7 (doMove (tm 0))), (uB 8 (doCall 36 [(tm 7)])), (uB 9 (bin2 fSub (tm 6) (tm 8))), (uB 10 (doMax (tm 9) (oN 0))), (uB 2 (doMove (tm 10)))]) CC.ret)
noncomputable abbrev b48 : CC := (CC.seq (CC.region [(wB 2 (doMove (oN 0)))]) s48_0)
theorem c48 : compFn Try.prog 48 = ⟨11, b48, [(Rs.tmp (slOf 2))]⟩ := by kernel_rfl
noncomputable abbrev b26 : CC := (CC.region [(wB 4 (doMove (tm 0))), (wB 5 (doMove (tm 1))), (wB 6 (doCall 49 [(tm 5), (oN 1000000)])), (wB 7 (doNilCheck (tm 4))), (wB 8 (doFieldAddr 0 (tm 7))), (CO.mk G.none D.none Bool.true (CR.mk (doStore 1 (tm 8) (tm 6))))])
theorem c26 : compFn Try.prog 26 = ⟨9, b26, []⟩ := by kernel_rfl
noncomputable abbrev s56_0 : CC := (CC.draws [(uB 23 (doMove (tm 0))), (uB 24 (doFieldAddr 1 (tm 4))), (wB 25 (doLoad (tm 24))), (uB 26 (doMove (tm 6))), (uB 27 (doMove (tm 7))), (uB 28 (doSlice 1 (tm 26) none (some (tm 27)))), (uB 29 (doMove (tm 7))), (uB 30 (bin2 fGtr (tm 29) (oN 0))), (wB 31 (doCall 80 [(tm 23), (tm 25), (tm 28), (tm 30)]))])
noncomputable abbrev s56_1 : CC := (CC.seq (CC.region [(wB 19 (doMove (tm 2))), (wB 20 (doMove (tm 6))), (wB 21 (doLen (tm 20))), (wB 22 (doCall 49 [(tm 19), (tm 21)])), (wB 7 (doMove (tm 22)))]) s56_0)
noncomputable abbrev s56_2 : CC := (CC.draws [(uB 34 (doMove (tm 0))), (uB 35 (doNilCheck (tm 34))), (uB 36 (doFieldAddr 1 (tm 35))), (uB 37 (doLoad (tm 36))), (uB 38 (doFieldAddr 1 (tm 4))), (uB 39 (doLoad (tm 38))), (uB 40 (doMove (tm 6))), (uB 41 (doFieldAddr 3 (tm 4))), (uB 42 (doLoad (tm 41))), (uB 43 (doMove (tm 2))), (uB 44 (doMove (tm 6))), (uB 45 (doLen (tm 44))), (uB 46 (doFieldAddr 3 (tm 4))), (uB 47 (doLoad (tm 46))), (uB 48 (bin2 fSub (tm 45) (tm 47))), (uB 49 (doCall 49 [(tm 43), (tm 48)])), (uB 50 (bin2 fAdd (tm 42) (tm 49))), (uB 51 (doSlice 1 (tm 40) none (some (tm 50)))), (CO.mk G.none D.none Bool.true (CR.mk (doMapSet none (tm 37) (tm 39) (tm 51))))])
noncomputable abbrev s56_3 : CC := (CC.region [(wB 66 (doMove (tm 0))), (wB 67 (doFieldAddr 1 (tm 4))), (wB 68 (doLoad (tm 67))), (wB 69 (doFieldAddr 4 (tm 4))), (wB 70 (doLoad (tm 69))), (wB 71 (doFieldAddr 5 (tm 4))), (wB 72 (doLoad (tm 71))), (wB 73 (doCall 80 [(tm 66), (tm 68), (tm 70), (tm 72)]))])
noncomputable abbrev s56_4 : CC := (CC.seq (CC.draws [(uB 59 (doMove (tm 0))), (uB 60 (doNilCheck (tm 59))), (uB 61 (doFieldAddr 1 (tm 60))), (uB 62 (doLoad (tm 61))), (uB 63 (doFieldAddr 2 (tm 4))), (uB 64 (doLoad (tm 63))), (uB 65 (doMove (tm 6))), (CO.mk G.none D.none Bool.true (CR.mk (doMapSet none (tm 62) (tm 64) (tm 65))))]) s56_3)
noncomputable abbrev s56_5 : CC := (CC.cond (tm 58) s56_4 CC.skip)
noncomputable abbrev s56_6 : CC := (CC.seq (CC.region [(wB 54 (doFieldAddr 2 (tm 4))), (wB 55 (doLoad (tm 54))), (wB 56 (doFieldAddr 1 (tm 4))), (wB 57 (doLoad (tm 56))), (wB 58 (doSCmp (fun a b c d => !eqS a b c d) (tm 55) (tm 57)))]) s56_5)
noncomputable abbrev s56_7 : CC := (CC.draws [(uB 76 (doMove (tm 0))), (uB 77 (doNilCheck (tm 76))), (uB 78 (doFieldAddr 1 (tm 77))), (uB 79 (doLoad (tm 78))), (uB 80 (doFieldAddr 1 (tm 4))), (uB 81 (doLoad (tm 80))), (uB 82 (doFieldAddr 4 (tm 4))), (uB 83 (doLoad (tm 82))), (CO.mk G.none D.none Bool.true (CR.mk (doMapSet none (tm 79) (tm 81) (tm 83))))])
noncomputable abbrev s56_8 : CC := (CC.cond (tm 74) s56_7 CC.skip)
noncomputable abbrev s56_9 : CC := (CC.seq (CC.region [(wB 75 (bin2 fEql (tm 16) (oN 4))), (wB 74 (doMove (tm 75)))]) s56_8)
noncomputable abbrev s56_10 : CC := (CC.cond (tm 52) s56_6 s56_9)
noncomputable abbrev s56_11 : CC := (CC.seq (CC.region [(wB 53 (bin2 fEql (tm 16) (oN 3))), (wB 52 (doMove (tm 53)))]) s56_10)
noncomputable abbrev s56_12 : CC := (CC.cond (tm 32) s56_2 s56_11)
noncomputable abbrev s56_13 : CC := (CC.seq (CC.region [(wB 33 (bin2 fEql (tm 16) (oN 2))), (wB 32 (doMove (tm 33)))]) s56_12)
noncomputable abbrev s56_14 : CC := (CC.cond (tm 17) s56_1 s56_13)
noncomputable abbrev s56_15 : CC := (CC.seq (CC.region [(wB 18 (bin2 fEql (tm 16) (oN 1))), (wB 17 (doMove (tm 18)))]) s56_14)
noncomputable abbrev s56_16 : CC := (CC.block 0 s56_15)
noncomputable abbrev s56_17 : CC := (CC.seq (CC.region [(wB 15 (doFieldAddr 0 (tm 4))), (wB 16 (doLoad (tm 15)))]) s56_16)
noncomputable abbrev s56_18 : CC := (CC.seq (CC.draws [(uB 8 (doMove (tm 0))), (uB 9 (doNilCheck (tm 8))), (uB 10 (doFieldAddr 1 (tm 9))), (uB 11 (doLoad (tm 10))), (uB 12 (doFieldAddr 1 (tm 4))), (uB 13 (doLoad (tm 12))), (wB 14 (doLookup none V.l0 Bool.false (tm 11) (tm 13))), (uB 6 (doMove (tm 14)))]) s56_17)
noncomputable abbrev b56 : CC := (CC.seq (CC.region [(wB 4 (doBox 84 (tm 1)))]) s56_18)
theorem c56 : compFn Try.prog 56 = ⟨84, b56, []⟩ := by kernel_rfl
noncomputable abbrev s80_0 : CC := (CC.region [(wB 9 (doMove (tm 0))), (wB 10 (doNilCheck (tm 9))), (wB 11 (doFieldAddr 1 (tm 10))), (wB 12 (doLoad (tm 11))), (wB 13 (doMove (tm 1))), (wB 14 (doMove (tm 2))), (CO.mk G.none D.none Bool.true (CR.mk (doMapSet none (tm 12) (tm 13) (tm 14))))])
noncomputable abbrev s80_1 : CC := (CC.region [(wB 15 (doMove (tm 0))), (wB 16 (doNilCheck (tm 15))), (wB 17 (doFieldAddr 1 (tm 16))), (wB 18 (doLoad (tm 17))), (wB 19 (doMove (tm 1))), (CO.mk G.none D.none Bool.true (CR.mk (doMapDel none (tm 18) (tm 19))))])
noncomputable abbrev s80_2 : CC := (CC.cond (tm 8) s80_0 s80_1)
noncomputable abbrev b80 : CC := (CC.seq (CC.region [(wB 8 (doMove (tm 3)))]) s80_2)
theorem c80 : compFn Try.prog 80 = ⟨20, b80, []⟩ := by kernel_rfl
end Go.Proofs.Ytjlhfoadabkahaa

set_option maxRecDepth 100000
set_option maxHeartbeats 8000000
set_option linter.all false
namespace Go.Proofs.Ytjlhfoadabkahaa
open Go Go.Ev
section
variable {h : H}
def heldZ (n m : Int) : Int := max 0 (min n m)
theorem held_ok (n m : Int) : FnOk Try.prog 49 [.i .i64 n, .i .i64 m] h fun y h' => y = .i .i64 (heldZ n m) ∧ h' = h := by
  refine fn_go c49 (by intro hb; cases hb) (by simp) (by simp) fun Q hQ => ?_
  simp only [slotsF, Nat.reduceAdd]
  repeat' (first
    | refine St.h ?_
    | simp (disch := first | omega | (simp only [lnv]; omega)) only [wlk, mwk, ↓get_put', ↓reduceIte, Nat.min_eq_left, seval]
    | (with_reducible (first | apply cd_split | apply gd_split)) <;> (intro hc; (try simp only [hcn] at hc); (try simp only [hc]); (try simp only [hcl] at hc); try omega))
  subst hQ
  exact ⟨rfl, rfl⟩
def nameC (c : UInt8) : Bool := decide (97 ≤ c.toNat ∧ c.toNat ≤ 122 ∨ 48 ≤ c.toNat ∧ c.toNat ≤ 57 ∨ c.toNat = 45)
def nameP (l : List UInt8) : Bool := decide (1 ≤ l.length) && decide (l.length ≤ 16) && l.all nameC
theorem all_take {l : List UInt8} {i : Nat} (hi : i < l.length) : (l.take (i + 1)).all nameC = ((l.take i).all nameC && nameC (l.getD i 0)) := by
  rw [List.take_add_one, List.all_append, List.getElem?_eq_getElem hi]
  simp [List.getD_eq_getElem?_getD, hi]
theorem nameP_bad {l : List UInt8} {i : Nat} (hi : i < l.length) (hb : nameC (l.getD i 0) = false) : nameP l = false := by
  have : l.all nameC = false := by
    rw [List.all_eq_false]
    refine ⟨l[i], List.getElem_mem hi, ?_⟩
    rw [List.getD_eq_getElem?_getD, List.getElem?_eq_getElem hi] at hb
    have hb : nameC l[i] = false := hb
    rw [hb]; simp
  unfold nameP; rw [this, Bool.and_false]
theorem isName_ok {l : List UInt8} (hl : l.length ≤ 9223372036854775807) : FnOk Try.prog 50 [sv l] h fun y h' => y = .b (nameP l) ∧ h' = h := by
  refine fn_go c50 (by intro hb; cases hb) (by simp) (by simp) fun Q hQ => ?_
  simp only [slotsF, Nat.reduceAdd]
  repeat' (first
    | refine St.h ?_
    | simp (disch := first | omega | (simp only [lnv]; omega)) only [wlk, mwk, ↓get_put', ↓reduceIte, Nat.min_eq_left, seval]
    | (with_reducible (first | apply cd_split | apply gd_split)) <;> (intro hc; (try simp only [hcn] at hc); (try simp only [hc]); (try simp only [hcl] at hc); try omega))
  · subst hQ
    exact ⟨by unfold nameP; rw [decide_eq_false (p := 1 ≤ l.length) (by omega)]; rfl, rfl⟩
  · subst hQ
    exact ⟨by unfold nameP; rw [decide_eq_false (p := l.length ≤ 16) (by omega)]; simp, rfl⟩
  refine Ok.lp (fun m t g => ∃ i : Nat, m = l.length - i ∧ i ≤ l.length ∧ h = g ∧ get 0 t = sv l ∧ get 14 t = .i .i64 (l.length : Int) ∧ get 15 t = .i .i64 (i : Int) ∧ (l.take i).all nameC = true) (l.length - 0) ?_ ?_
  · simp (disch := first | omega | (simp only [lnv]; omega)) only [wlk, mwk, ↓get_put', ↓reduceIte, Nat.min_eq_left, seval]
    refine ⟨0, rfl, by omega, ?_⟩
    simp
  rintro I hI m t g ⟨i, rfl, hi, rfl, e0, e14, e15, ea⟩
  repeat' (first
    | refine St.h ?_
    | simp (disch := first | omega | (simp only [lnv]; omega)) only [wlk, mwk, ↓get_put', ↓reduceIte, Nat.min_eq_left, seval, e0, e14, e15, Int.toNat_natCast]
    | (with_reducible (first | apply cd_split | apply gd_split)) <;> (intro hc; (try simp only [hcn] at hc); (try simp only [hc]); (try simp only [hcl] at hc); try omega))
  all_goals first
    | (refine lp_next hI (l.length - (i + 1)) (by omega) ⟨i + 1, rfl, by omega, rfl, by simp (disch := first | omega | (simp only [lnv]; omega)) only [wlk, mwk, ↓get_put', ↓reduceIte, Nat.min_eq_left, seval, e0], by simp (disch := first | omega | (simp only [lnv]; omega)) only [wlk, mwk, ↓get_put', ↓reduceIte, Nat.min_eq_left, seval, e14], by simp (disch := first | omega | (simp only [lnv]; omega)) only [wlk, mwk, ↓get_put', ↓reduceIte, Nat.min_eq_left, seval]; rfl, ?_⟩
       rw [all_take (by omega), ea, Bool.true_and]
       exact decide_eq_true (by omega))
    | (subst hQ
       exact ⟨by rw [nameP_bad (i := i) (by omega) (decide_eq_false (by omega))], rfl⟩)
    | (subst hQ
       refine ⟨?_, rfl⟩
       rw [List.take_of_length_le (by omega)] at ea
       unfold nameP
       rw [ea, decide_eq_true (p := 1 ≤ l.length) (by omega), decide_eq_true (p := l.length ≤ 16) (by omega)]; rfl)
/-- what is free -/
theorem left_ok {s : B} {f : Nat} {rm : Int} {fl lo : V} {E : En} (r : Row h s 0 0 [.i .i64 rm, fl, lo]) (hf : 3 ≤ f) (m : MpB h fl E) (hE : ∀ p ∈ E, IsSl p.2) (hl : usedE E ≤ 9223372036854775807) (h0 : 0 ≤ rm) (h1 : rm ≤ 1000000) :
    FnOk Try.prog 48 [.p s 0 0 f] h fun y h' => y = .i .i64 (max (rm - (usedE E : Int)) 0) ∧ h' = h := by
  refine fn_go c48 (by intro hb; cases hb) (by simp) (by simp) fun Q hQ => ?_
  simp only [slotsF, Nat.reduceAdd]
  repeat' (first
    | refine St.h ?_
    | simp (disch := first | omega | (simp only [lnv]; omega)) only [wlk, mwk, ↓get_put', ↓reduceIte, Nat.min_eq_left, seval, r.l1]
    | (with_reducible (first | apply cd_split | apply gd_split)) <;> (intro hc; (try simp only [hcn] at hc); (try simp only [hc]); (try simp only [hcl] at hc); try omega))
  refine CL.pure (used_any (row_re r) hf m.re hE hl) ?_
  repeat' (first
    | refine St.h ?_
    | simp (disch := first | omega | (simp only [lnv]; omega)) only [wlk, mwk, ↓get_put', ↓reduceIte, Nat.min_eq_left, seval, r.l1]
    | (with_reducible (first | apply cd_split | apply gd_split)) <;> (intro hc; (try simp only [hcn] at hc); (try simp only [hc]); (try simp only [hcl] at hc); try omega))
  subst hQ
  exact ⟨rfl, rfl⟩
theorem new_ok (n : Int) (hf : B.val h.floor ≤ B.val h.next) : FnOk Try.prog 14 [.i .i64 n] h fun y h' => y = .p h.next 0 0 3 ∧ Ev.Own h' h.next [.i .i64 (heldZ n 1000000), .m0, .l0] ∧ Stay nowhere h h' := by
  refine fn_go c14 (by intro hb; cases hb) (by simp) (by simp) fun Q hQ => ?_
  simp only [slotsF, Nat.reduceAdd]
  repeat' (first
    | refine St.h ?_
    | simp (disch := first | omega | (simp only [lnv]; omega)) only [wlk, mwk, ↓get_put', ↓reduceIte, Nat.min_eq_left, seval]
    | (with_reducible (first | apply cd_split | apply gd_split)) <;> (intro hc; (try simp only [hcn] at hc); (try simp only [hc]); (try simp only [hcl] at hc); try omega))
  refine CL.pure (held_ok n 1000000) ?_
  repeat' (first
    | refine St.h ?_
    | simp (disch := first | omega | (simp only [lnv]; omega)) only [wlk, mwk, ↓get_put', ↓reduceIte, Nat.min_eq_left, seval]
    | (with_reducible (first | apply cd_split | apply gd_split)) <;> (intro hc; (try simp only [hcn] at hc); (try simp only [hc]); (try simp only [hcl] at hc); try omega))
  refine AL.own (by simp) hf fun h1 s1 n1 o1 => ?_
  repeat' (first
    | refine St.h ?_
    | simp (disch := first | omega | (simp only [lnv]; omega)) only [wlk, mwk, ↓get_put', ↓reduceIte, Nat.min_eq_left, seval]
    | (with_reducible (first | apply cd_split | apply gd_split)) <;> (intro hc; (try simp only [hcn] at hc); (try simp only [hc]); (try simp only [hcl] at hc); try omega))
  subst hQ
  exact ⟨rfl, o1, s1⟩
theorem room_ok {s : B} {rm : Int} {fl lo : V} {n : Int} (o : Ev.Own h s [.i .i64 rm, fl, lo]) : FnOk Try.prog 26 [.p s 0 0 3, .i .i64 n] h fun y h' => y = .tu [] ∧ Ev.Own h' s [.i .i64 (heldZ n 1000000), fl, lo] ∧ Stay (fun i => i = s) h h' := by
  refine fn_go c26 (by intro hb; cases hb) (by simp) (by simp) fun Q hQ => ?_
  simp only [slotsF, Nat.reduceAdd]
  repeat' (first
    | refine St.h ?_
    | simp (disch := first | omega | (simp only [lnv]; omega)) only [wlk, mwk, ↓get_put', ↓reduceIte, Nat.min_eq_left, seval, o.row.l1]
    | (with_reducible (first | apply cd_split | apply gd_split)) <;> (intro hc; (try simp only [hcn] at hc); (try simp only [hc]); (try simp only [hcl] at hc); try omega))
  refine CL.pure (held_ok n 1000000) ?_
  repeat' (first
    | refine St.h ?_
    | simp (disch := first | omega | (simp only [lnv]; omega)) only [wlk, mwk, ↓get_put', ↓reduceIte, Nat.min_eq_left, seval, o.row.l1]
    | (with_reducible (first | apply cd_split | apply gd_split)) <;> (intro hc; (try simp only [hcn] at hc); (try simp only [hc]); (try simp only [hcl] at hc); try omega))
  refine ST.own o rfl rfl (by omega) (by omega) fun h1 o1 s1 => ?_
  repeat' (first
    | refine St.h ?_
    | simp (disch := first | omega | (simp only [lnv]; omega)) only [wlk, mwk, ↓get_put', ↓reduceIte, Nat.min_eq_left, seval]
    | (with_reducible (first | apply cd_split | apply gd_split)) <;> (intro hc; (try simp only [hcn] at hc); (try simp only [hc]); (try simp only [hcl] at hc); try omega))
  subst hQ
  exact ⟨rfl, o1, s1⟩
theorem keep_ok {s : B} {rm : Int} {fl lo : V} (o : Ev.Own h s [.i .i64 rm, fl, lo]) : FnOk Try.prog 24 [.p s 0 0 3] h fun y h' => y = .tu [] ∧ Ev.Own h' s [.i .i64 rm, fl, .l0] ∧ Stay (fun i => i = s) h h' := by
  refine fn_go c24 (by intro hb; cases hb) (by simp) (by simp) fun Q hQ => ?_
  simp only [slotsF, Nat.reduceAdd]
  repeat' (first
    | refine St.h ?_
    | simp (disch := first | omega | (simp only [lnv]; omega)) only [wlk, mwk, ↓get_put', ↓reduceIte, Nat.min_eq_left, seval, o.row.l1]
    | (with_reducible (first | apply cd_split | apply gd_split)) <;> (intro hc; (try simp only [hcn] at hc); (try simp only [hc]); (try simp only [hcl] at hc); try omega))
  refine ST.own o rfl rfl (by omega) (by omega) fun h1 o1 s1 => ?_
  repeat' (first
    | refine St.h ?_
    | simp (disch := first | omega | (simp only [lnv]; omega)) only [wlk, mwk, ↓get_put', ↓reduceIte, Nat.min_eq_left, seval]
    | (with_reducible (first | apply cd_split | apply gd_split)) <;> (intro hc; (try simp only [hcn] at hc); (try simp only [hc]); (try simp only [hcl] at hc); try omega))
  subst hQ
  exact ⟨rfl, o1, s1⟩
/-- what is read of a file's slice -/
def RdB (h : H) (v : V) (bs : List UInt8) : Prop := ∀ N, BS Try.prog v h N = N.go Try.prog (sv bs) h
theorem get_ok {s : B} {f : Nat} {rm fl lo : V} {E : En} {k : List UInt8} {C : V → List UInt8} (r : Row h s 0 0 [rm, fl, lo]) (hf : 3 ≤ f) (m : MpB h fl E) (hC : ∀ p ∈ E, RdB h p.2 (C p.2)) :
    FnOk Try.prog 31 [.p s 0 0 f, sv k] h fun y h' => y = (match getE E k with | some v => .tu [sv (C v), .i .i64 0] | none => .tu [sv [], .i .i64 14]) ∧ h' = h := by
  refine fn_go c31 (by intro hb; cases hb) (by simp) (by simp) fun Q hQ => ?_
  simp only [slotsF, Nat.reduceAdd]
  cases hg : getE E k with
  | none =>
    repeat' (first
      | refine St.h ?_
      | simp (disch := first | omega | (simp only [lnv]; omega)) only [wlk, mwk, ↓get_put', ↓reduceIte, Nat.min_eq_left, seval, r.l1, m.lk, hg]
      | (with_reducible (first | apply cd_split | apply gd_split)) <;> (intro hc; (try simp only [hcn] at hc); (try simp only [hc]); (try simp only [hcl] at hc); try omega))
    subst hQ
    exact ⟨by rw [hg], rfl⟩
  | some v =>
    have hb := hC _ (getE_in hg)
    repeat' (first
      | refine St.h ?_
      | simp (disch := first | omega | (simp only [lnv]; omega)) only [wlk, mwk, ↓get_put', ↓reduceIte, Nat.min_eq_left, seval, r.l1, m.lk, hg]
      | (with_reducible (first | apply cd_split | apply gd_split)) <;> (intro hc; (try simp only [hcn] at hc); (try simp only [hc]); (try simp only [hcl] at hc); try omega))
    rw [hb]
    repeat' (first
      | refine St.h ?_
      | simp (disch := first | omega | (simp only [lnv]; omega)) only [wlk, mwk, ↓get_put', ↓reduceIte, Nat.min_eq_left, seval]
      | (with_reducible (first | apply cd_split | apply gd_split)) <;> (intro hc; (try simp only [hcn] at hc); (try simp only [hc]); (try simp only [hcl] at hc); try omega))
    subst hQ
    exact ⟨by rw [hg], rfl⟩
theorem loose_ok {s : B} {f : Nat} {rm fl lo : V} {n : Nat} (r : Row h s 0 0 [rm, fl, lo]) (hf : 3 ≤ f) (hx : ∀ N, H1 Try.prog gLen lo h N = N.go Try.prog (.i .i64 (n : Int)) h) :
    FnOk Try.prog 34 [.p s 0 0 f] h fun y h' => y = .i .i64 (n : Int) ∧ h' = h := by
  refine fn_go c34 (by intro hb; cases hb) (by simp) (by simp) fun Q hQ => ?_
  simp only [slotsF, Nat.reduceAdd]
  repeat' (first
    | refine St.h ?_
    | simp (disch := first | omega | (simp only [lnv]; omega)) only [wlk, mwk, ↓get_put', ↓reduceIte, Nat.min_eq_left, seval, r.l1, hx]
    | (with_reducible (first | apply cd_split | apply gd_split)) <;> (intro hc; (try simp only [hcn] at hc); (try simp only [hc]); (try simp only [hcl] at hc); try omega))
  subst hQ
  exact ⟨rfl, rfl⟩
theorem setBack_ok {s id : B} {f : Nat} {rm lo v : V} {E : En} {k : List UInt8} {b : Bool} (r : Row h s 0 0 [rm, .m id, lo]) (hf : 3 ≤ f) (m : MapC h id E) (hl : E.length ≤ 1048576) :
    FnOk Try.prog 80 [.p s 0 0 f, sv k, v, .b b] h fun y h' => y = .tu [] ∧ MapC h' id (if b then setE E k v else delE E k) ∧ Stay (fun i => i = id) h h' := by
  refine fn_go c80 (by intro hb; cases hb) (by simp) (by simp) fun Q hQ => ?_
  simp only [slotsF, Nat.reduceAdd]
  cases b with
  | true =>
    repeat' (first
      | refine St.h ?_
      | simp (disch := first | omega | (simp only [lnv]; omega)) only [wlk, mwk, ↓get_put', ↓reduceIte, Nat.min_eq_left, seval, r.l1]
      | (with_reducible (first | apply cd_split | apply gd_split)) <;> (intro hc; (try simp only [hcn] at hc); (try simp only [hc]); (try simp only [hcl] at hc); try omega))
    refine MU.mk m hl fun h1 m1 s1 => ?_
    repeat' (first
      | refine St.h ?_
      | simp (disch := first | omega | (simp only [lnv]; omega)) only [wlk, mwk, ↓get_put', ↓reduceIte, Nat.min_eq_left, seval]
      | (with_reducible (first | apply cd_split | apply gd_split)) <;> (intro hc; (try simp only [hcn] at hc); (try simp only [hc]); (try simp only [hcl] at hc); try omega))
    subst hQ
    exact ⟨rfl, m1, s1⟩
  | false =>
    repeat' (first
      | refine St.h ?_
      | simp (disch := first | omega | (simp only [lnv]; omega)) only [wlk, mwk, ↓get_put', ↓reduceIte, Nat.min_eq_left, seval, r.l1]
      | (with_reducible (first | apply cd_split | apply gd_split)) <;> (intro hc; (try simp only [hcn] at hc); (try simp only [hc]); (try simp only [hcl] at hc); try omega))
    refine MD.mk m hl fun h1 m1 s1 => ?_
    repeat' (first
      | refine St.h ?_
      | simp (disch := first | omega | (simp only [lnv]; omega)) only [wlk, mwk, ↓get_put', ↓reduceIte, Nat.min_eq_left, seval]
      | (with_reducible (first | apply cd_split | apply gd_split)) <;> (intro hc; (try simp only [hcn] at hc); (try simp only [hc]); (try simp only [hcl] at hc); try omega))
    subst hQ
    exact ⟨rfl, m1, s1⟩
/-- an act's cells -/
def actV (kind : Int) (name old : List UInt8) (front : Int) (gone : V) (had : Bool) : List V := [.i .i64 kind, sv name, sv old, .i .i64 front, gone, .b had]
theorem IsSl.one {v : V} (a : IsSl v) : oneV v = true := by
  rcases a with rfl | ⟨id, g, off, len, fin, cap, rfl⟩ <;> rfl
theorem IsSl.fp {P : Program} {h : H} {N : Nx} {off : Nat} {v : V} {ps : List Pt} {t : F} {z : List V} {e : Option (Nat × Nat)} (a : IsSl v) (hz : off + 1 ≤ z.length) : FP P off 1 v ps t z e h N = FL P ps t (z.take off ++ (v :: z.drop (off + 1))) e h N := by
  rcases a with rfl | ⟨id, g, o, len, fin, cap, rfl⟩
  · rw [fp_l0, if_pos hz]
  · rw [fp_l, if_pos hz]
theorem act_one {kind front : Int} {name old : List UInt8} {gone : V} {had : Bool} (a : IsSl gone) : allOne (actV kind name old front gone had) = true := by
  rcases a with rfl | ⟨id, g, off, len, fin, cap, rfl⟩ <;> rfl
theorem buf_cells {h : H} {el size : Nat} {v : V} {xs : List V} (b : Buf h el size v xs) : cells v = [v] ∧ oneV v = true := by
  rcases b with ⟨rfl, _⟩ | ⟨id, g, m, blk, rfl, _⟩ <;> exact ⟨rfl, rfl⟩
theorem drop_none {s : B} {f : Nat} {rm fl lo : V} {E : En} {k : List UInt8} (r : Row h s 0 0 [rm, fl, lo]) (hf : 3 ≤ f) (m : MpB h fl E) (hg : getE E k = none) :
    FnOk Try.prog 22 [.p s 0 0 f, sv k] h fun y h' => y = .i .i64 14 ∧ h' = h := by
  refine fn_go c22 (by intro hb; cases hb) (by simp) (by simp) fun Q hQ => ?_
  simp only [slotsF, Nat.reduceAdd]
  repeat' (first
    | refine St.h ?_
    | simp (disch := first | omega | (simp only [lnv]; omega)) only [wlk, mwk, ↓get_put', ↓reduceIte, Nat.min_eq_left, seval, r.l1, m.lk, hg]
    | (with_reducible (first | apply cd_split | apply gd_split)) <;> (intro hc; (try simp only [hcn] at hc); (try simp only [hc]); (try simp only [hcl] at hc); try omega))
  subst hQ
  exact ⟨rfl, rfl⟩
theorem drop_ok {s id : B} {rm lo v : V} {E : En} {k : List UInt8} {acts : List V} (o : Ev.Own h s [rm, .m id, lo]) (m : MapC h id E) (b : Buf h 84 6 lo acts) (hsi : s ≠ id) (hls : ¬ isOf lo s) (hli : ¬ isOf lo id) (hf : B.val h.floor ≤ B.val h.next)
    (hlE : E.length ≤ 1048576) (hla : acts.length + 6 ≤ 1048576) (hg : getE E k = some v) (hv : IsSl v) :
    FnOk Try.prog 22 [.p s 0 0 3, sv k] h fun y h' => y = .i .i64 0 ∧ ∃ lo', Ev.Own h' s [rm, .m id, lo'] ∧ MapC h' id (delE E k) ∧ Buf h' 84 6 lo' (acts ++ actV 4 k [] 0 v true) ∧ Stay (fun i => i = s ∨ i = id ∨ isOf lo i) h h' ∧ ∀ i, isOf lo' i → isOf lo i ∨ B.val h.next ≤ B.val i := by
  have hv1 := hv.one
  refine fn_go c22 (by intro hb; cases hb) (by simp) (by simp) fun Q hQ => ?_
  simp only [slotsF, Nat.reduceAdd]
  repeat' (first
    | refine St.h ?_
    | simp (disch := first | omega | (simp only [lnv]; omega)) only [wlk, mwk, ↓get_put', ↓reduceIte, Nat.min_eq_left, seval, o.row.l1, m.lk, hg]
    | (with_reducible (first | apply cd_split | apply gd_split)) <;> (intro hc; (try simp only [hcn] at hc); (try simp only [hc]); (try simp only [hcl] at hc); try omega))
  refine MD.mk m hlE fun h1 m1 s1 => ?_
  have o1 : Ev.Own h1 s [rm, .m id, lo] := o.stay s1 hsi
  repeat' (first
    | refine St.h ?_
    | simp (disch := first | omega | (simp only [lnv]; omega)) only [wlk, mwk, ↓get_put', ↓reduceIte, Nat.min_eq_left, seval, o1.row.l1]
    | (with_reducible (first | apply cd_split | apply gd_split)) <;> (intro hc; (try simp only [hcn] at hc); (try simp only [hc]); (try simp only [hcl] at hc); try omega))
  rw [hv.fp (by simp)]
  repeat' (first
    | refine St.h ?_
    | simp (disch := first | omega | (simp only [lnv]; omega)) only [wlk, mwk, ↓get_put', ↓reduceIte, Nat.min_eq_left, seval, o1.row.l1]
    | (with_reducible (first | apply cd_split | apply gd_split)) <;> (intro hc; (try simp only [hcn] at hc); (try simp only [hc]); (try simp only [hcl] at hc); try omega))
  refine AL.own (by simp) (s1.fl hf) fun h2 s2 n2 o2 => ?_
  repeat' (first
    | refine St.h ?_
    | simp (disch := first | omega | (simp only [lnv]; omega)) only [wlk, mwk, ↓get_put', ↓reduceIte, Nat.min_eq_left, seval, o1.row.l1]
    | (with_reducible (first | apply cd_split | apply gd_split)) <;> (intro hc; (try simp only [hcn] at hc); (try simp only [hc]); (try simp only [hcl] at hc); try omega))
  have bb : Buf h2 84 6 lo acts := (b.stay s1 (fun i hi e => hli (by rw [← e]; exact hi))).grow s2
  refine AP.buf (vs := actV 4 k [] 0 v true) (cnt := 1) bb (new_row o2.row rfl (Nat.le_refl _) (by omega) (by show 6 ≤ 6; omega)) (s2.fl (s1.fl hf)) (by omega) rfl (act_one hv) (by simp [actV]; omega) fun lo' h3 b3 s3 hv3 tp => ?_
  have o2s : Ev.Own h2 s [rm, .m id, lo] := o1.stay s2 (fun h => h)
  have o3 : Ev.Own h3 s [rm, .m id, lo] := o2s.stay s3 hls
  repeat' (first
    | refine St.h ?_
    | simp (disch := first | omega | (simp only [lnv]; omega)) only [wlk, mwk, ↓get_put', ↓reduceIte, Nat.min_eq_left, seval, o3.row.l1]
    | (with_reducible (first | apply cd_split | apply gd_split)) <;> (intro hc; (try simp only [hcn] at hc); (try simp only [hc]); (try simp only [hcl] at hc); try omega))
  refine ST.own o3 (buf_cells b3).1 (buf_cells b3).2 (by omega) (by omega) fun h4 o4 s4 => ?_
  repeat' (first
    | refine St.h ?_
    | simp (disch := first | omega | (simp only [lnv]; omega)) only [wlk, mwk, ↓get_put', ↓reduceIte, Nat.min_eq_left, seval]
    | (with_reducible (first | apply cd_split | apply gd_split)) <;> (intro hc; (try simp only [hcn] at hc); (try simp only [hc]); (try simp only [hcl] at hc); try omega))
  subst hQ
  have hslt : B.val s < B.val h2.next := by obtain ⟨_, _, _, _, _, _, h6, _⟩ := o2s; exact h6
  have hl4 : ¬ isOf lo' s := fun e => (hv3 _ e).elim hls fun e => by omega
  refine ⟨rfl, lo', o4, ((m1.stay s2 (fun h => h)).stay s3 hli).stay s4 (fun e => hsi e.symm), b3.stay s4 (fun i hi e => hl4 (by rw [← e]; exact hi)), ?_, fun i hi => (hv3 i hi).imp (fun h => h) fun e => by have := s1.next; omega⟩
  exact ((((s1.mono fun _ _ e => .inr (.inl e)).trans (s2.mono fun _ _ e => e.elim)).trans (s3.mono fun _ _ e => .inr (.inr e))).trans (s4.mono fun _ _ e => .inl e))
end
end Go.Proofs.Ytjlhfoadabkahaa

set_option linter.all false
namespace Go.Ev
open Go
section
variable {P : Program} {nt : Nat} {ops : Array Oper} {Ts : Nat → F}
theorem ahead1 (hd : drawsOk ops.toList = true) {listed : Array Bool} (hc : Closed ops.toList listed) {i : Nat} {oi : Oper} (hi : ops[i]? = some oi) (hni : ¬ InL listed i) (hr : ∀ e ∈ oi.after.toList, Region.binds .any e = true → InL listed e.on)
    {q : Nat} (hq : q ∈ looks ops.toList oi ∨ oi.dst = some q) {j : Nat} {oj : Oper} (hj : ops[j]? = some oj) (hdj : oj.dst = some q) (hji : j ≠ i) : j < i ↔ InL listed j := by
  have hi' : ops.toList[i]? = some oi := by simpa using hi
  have hj' : ops.toList[j]? = some oj := by simpa using hj
  have hqj : q ∈ dstL oj := by simp [dstL, hdj]
  constructor
  · intro hlt
    rcases pair_ok hd hj' hi' hlt with h | h
    · exact h.inL hc fun o ho e he hb => by rw [hi'] at ho; cases ho; exact hr e he hb
    · simp only [slotsOk, Bool.and_eq_true] at h
      rcases hq with hq | hq
      · exact (apartL_ok h.2.1 hqj hq).elim
      · exact (apartL_ok h.1 hqj (by simp [dstL, hq])).elim
  · intro hin
    refine Decidable.byContradiction fun hlt => ?_
    have hlt' : i < j := by omega
    rcases pair_ok hd hi' hj' hlt' with h | h
    · exact hni (h.inL hc fun o ho e he hb => hc j o ho hin e he hb)
    · simp only [slotsOk, Bool.and_eq_true] at h
      rcases hq with hq | hq
      · exact (apartL_ok h.2.2 hqj hq).elim
      · exact (apartL_ok h.1 (by simp [dstL, hq]) hqj).elim
/-- what each operation leaves of the slots -/
def Frm (nt : Nat) (ops : Array Oper) (Ts : Nat → F) : Prop := ∀ (i : Nat) o, ops[i]? = some o → (∀ q, o.dst = some q → q < nt ∧ q < 512) ∧ ∀ q, q < 512 → o.dst ≠ some q → sGet (slOf q) (Ts (i + 1)) = sGet (slOf q) (Ts i)
theorem slot_same1 (hs : Frm nt ops Ts) : ∀ {m n q : Nat}, q < 512 → m ≤ n → n ≤ ops.size → (∀ (j : Nat) o, ops[j]? = some o → o.dst = some q → m ≤ j → j < n → False) → sGet (slOf q) (Ts n) = sGet (slOf q) (Ts m) := by
  intro m n q hq hmn
  induction hmn with
  | refl => intro _ _; rfl
  | @step k hk ih =>
    intro hN hno
    have ho : ops[k]? = some (ops[k]'(by omega)) := Array.getElem?_eq_getElem _
    rw [(hs k _ ho).2 q hq fun e => hno k _ ho e hk (Nat.lt_succ_self _)]
    exact ih (by omega) fun j o hj hd h1 h2 => hno j o hj hd h1 (by omega)
def Slots1 (ops : Array Oper) (Ts : Nat → F) (listed : Array Bool) (a : Act) (ρ : Emb) : Prop := ∀ q, q < 512 → ∃ m, m ≤ ops.size ∧ (m = 0 ∨ ∃ j o, m = j + 1 ∧ ops[j]? = some o ∧ o.dst = some q) ∧ (∀ (j : Nat) o, ops[j]? = some o → o.dst = some q → (j < m ↔ InL listed j)) ∧ VRel ρ (sGet (slOf q) (Ts m)) (a.tmps.getD q undef)
theorem look1 (hd : drawsOk ops.toList = true) (hs : Frm nt ops Ts) {listed : Array Bool} (hc : Closed ops.toList listed) {a : Act} {ρ : Emb} (hsz : a.tmps.size = nt) (I : Slots1 ops Ts listed a ρ)
    {i : Nat} {oi : Oper} (hi : ops[i]? = some oi) (hni : ¬ InL listed i) (hr : ∀ e ∈ oi.after.toList, Region.binds .any e = true → InL listed e.on) : Looks nt ops.toList oi ρ (Ts i) a := by
  refine ⟨hsz, fun q hq h5 => ?_⟩
  obtain ⟨m, hm, hm0, hw, hv⟩ := I q h5
  have hiN : i < ops.size := (Array.getElem?_eq_some_iff.1 hi).1
  have key : ∀ (j : Nat) o, ops[j]? = some o → o.dst = some q → j ≠ i → (j < m ↔ j < i) := fun j o hj hdj hji => (hw j o hj hdj).trans (ahead1 hd hc hi hni hr (.inl hq) hj hdj hji).symm
  have self : oi.dst = some q → ¬ i < m := fun hdi h => hni ((hw i oi hi hdi).1 h)
  have hmi : m ≤ i := by
    rcases hm0 with h0 | ⟨j, o, rfl, hj, hdj⟩
    · omega
    · by_cases hji : j = i
      · subst hji
        rw [hi] at hj; cases hj
        exact absurd (Nat.lt_succ_self j) (self hdj)
      · have := (key j o hj hdj hji).1 (Nat.lt_succ_self j)
        omega
  have : sGet (slOf q) (Ts i) = sGet (slOf q) (Ts m) := by
    refine slot_same1 hs h5 hmi (by omega) fun j o hj hdj h1 h2 => ?_
    have := (key j o hj hdj (by omega)).2 h2
    omega
  rw [this]; exact hv
theorem put1 (hd : drawsOk ops.toList = true) (hs : Frm nt ops Ts) {listed : Array Bool} (hc : Closed ops.toList listed) {a : Act} {ρ : Emb} (hsz : a.tmps.size = nt) (I : Slots1 ops Ts listed a ρ)
    {i : Nat} {oi : Oper} (hi : ops[i]? = some oi) (hni : ¬ InL listed i) (hr : ∀ e ∈ oi.after.toList, Region.binds .any e = true → InL listed e.on) {listed' : Array Bool} (hl : ∀ j, InL listed' j ↔ (InL listed j ∨ j = i))
    {ρ' : Emb} (hle : ρ.le ρ') {x : Value} (hx : ∀ q, oi.dst = some q → VRel ρ' (sGet (slOf q) (Ts (i + 1))) x) : Slots1 ops Ts listed' (a.put oi.dst x) ρ' := by
  intro q h5
  have hiN : i < ops.size := (Array.getElem?_eq_some_iff.1 hi).1
  by_cases hdq : oi.dst = some q
  · refine ⟨i + 1, by omega, .inr ⟨i, oi, rfl, hi, hdq⟩, fun j o hj hdj => ?_, ?_⟩
    · rw [hl]
      by_cases hji : j = i
      · subst hji; constructor
        · intro _; exact .inr rfl
        · intro _; omega
      · have := ahead1 hd hc hi hni hr (.inr hdq) hj hdj hji
        constructor
        · intro h; exact .inl (this.1 (by omega))
        · rintro (h | h)
          · have := this.2 h; omega
          · exact absurd h hji
    · have hqn := ((hs i oi hi).1 q hdq).1
      have : ((a.put oi.dst x).tmps.getD q undef) = x := by rw [hdq]; simp [Act.put, hsz, hqn]
      rw [this]; exact hx q hdq
  · obtain ⟨m, hm, hm0, hw, hv⟩ := I q h5
    refine ⟨m, hm, hm0, fun j o hj hdj => ?_, ?_⟩
    · rw [hl, hw j o hj hdj]
      constructor
      · intro h; exact .inl h
      · rintro (h | h)
        · exact h
        · subst h; rw [hi] at hj; cases hj; exact absurd hdj hdq
    · have : ((a.put oi.dst x).tmps.getD q undef) = a.tmps.getD q undef := by
        cases hdst : oi.dst with
        | none => rfl
        | some d =>
          simp only [Act.put, Array.getD_eq_getD_getElem?, Array.getElem?_setIfInBounds]
          rw [if_neg (fun e => hdq (by rw [hdst, e]))]
      rw [this]; exact VRel.up hle _ _ hv
/-- the heap at a moment: 'A' is the n-th operation, 'B' the one behind it -/
def At1 (h h2 h3 : H) (n : Nat) (listed : Array Bool) (ρ : Emb) (w w0 : World) : Prop :=
  (¬ InL listed n → ¬ InL listed (n + 1) → HRel ρ h w w0) ∧ (InL listed n → ¬ InL listed (n + 1) → HRel ρ h2 w w0) ∧ (InL listed (n + 1) → (InL listed n ∨ h2 = h) ∧ HRel ρ h3 w w0)
theorem any1 (hd : drawsOk ops.toList = true) {n : Nat} (hn : ops.size = n + 2) {h h2 h3 : H} (hs : Frm nt ops Ts)
    (hq : ∀ (i : Nat) o, i < n → ops[i]? = some o → StepOk P nt ops i o true (Ts i) (Ts (i + 1)) h h ∧ StepOk P nt ops i o true (Ts i) (Ts (i + 1)) h2 h2 ∧ (still P o.op = true ∨ Reach ops.toList (n + 1) i))
    (hA : ∀ o, ops[n]? = some o → StepOk P nt ops n o true (Ts n) (Ts (n + 1)) h h2) (hB : ∀ o, ops[n + 1]? = some o → StepOk P nt ops (n + 1) o true (Ts (n + 1)) (Ts (n + 2)) h2 h3) (hAB : ∀ o, ops[n]? = some o → Reach ops.toList (n + 1) n ∨ (still P o.op = true ∧ h2 = h))
    {ρ0 : Emb} {w0 : World} {Q : Exit → Act → World → Prop} (hQ : ∀ ρ a w, Ext h.floor ρ0 ρ → ARel ρ nt (Ts ops.size) a → HRel ρ h3 w w0 → Q .normal a w) :
    ∀ (fuel : Nat) (listed : Array Bool) (a : Act) (w : World) (ρ : Emb), listed.size = ops.size → left ops.size listed ≤ fuel → Closed ops.toList listed → a.tmps.size = nt → a.defers = [] → Ext h.floor ρ0 ρ → Slots1 ops Ts listed a ρ → At1 h h2 h3 n listed ρ w w0 →
      wpAny P .any ops Q fuel listed a w := by
  have hup : edgesUp 0 ops.toList = true := by simp only [drawsOk, Bool.and_eq_true] at hd; exact hd.1
  have fl2 : ∀ o, ops[n]? = some o → h2.floor = h.floor := fun o ho => by
    obtain ⟨v, g, _, e2, _, e4, _⟩ := (hA o ho).ex
    simp only [if_true] at e2 e4
    rw [e4]; exact e2.1
  have done : ∀ {listed : Array Bool} {a : Act} {w : World} {ρ : Emb}, (∀ i, i < ops.size → InL listed i) → a.tmps.size = nt → a.defers = [] → Ext h.floor ρ0 ρ → Slots1 ops Ts listed a ρ → At1 h h2 h3 n listed ρ w w0 → Q .normal a w := fun {listed a w ρ} hall hsz hdf hE I hp => by
    refine hQ ρ a w hE ⟨hdf, hsz, fun q h5 => ?_⟩ (hp.2.2 (hall _ (by omega))).2
    obtain ⟨m, hm, hm0, hw, hv⟩ := I q h5
    rw [slot_same1 hs h5 hm (Nat.le_refl _) fun j o hj hdj h1 h2 => by
      have := (hw j o hj hdj).2 (hall j h2)
      omega]
    exact hv
  intro fuel
  induction fuel with
  | zero =>
    intro listed a w ρ hsz hlf hc ha hdf hE I hp
    have hall : ∀ i, i < ops.size → InL listed i := by
      intro i hi
      have h0 : (List.range ops.size).filter (fun i => !listed.getD i false) = [] := List.eq_nil_of_length_eq_zero (by unfold left at hlf; omega)
      have := List.filter_eq_nil_iff.1 h0 i (List.mem_range.2 hi)
      unfold InL
      simpa using this
    refine ⟨?_, done hall ha hdf hE I hp⟩
    rw [List.eq_nil_iff_forall_not_mem]
    intro j hj
    obtain ⟨hj1, o, hj2, _⟩ := mem_ready.1 hj
    have hjN : j < ops.size := (Array.getElem?_eq_some_iff.1 hj2).1
    have := hall j hjN
    unfold InL at this
    have hjl : j < listed.size := by omega
    simp [hjl] at this hj1
    rw [this] at hj1; cases hj1
  | succ fuel ih =>
    intro listed a w ρ hsz hlf hc ha hdf hE I hp
    constructor
    · intro hready
      by_cases hall : ∀ i, i < ops.size → InL listed i
      · exact done hall ha hdf hE I hp
      · exfalso
        have hex : ∃ i, i < ops.size ∧ ¬ InL listed i := by
          refine Classical.byContradiction fun h => hall fun i hi => Classical.byContradiction fun h' => h ⟨i, hi, h'⟩
        have hleast : ∃ i, (i < ops.size ∧ ¬ InL listed i) ∧ ∀ j, j < i → ¬ (j < ops.size ∧ ¬ InL listed j) := by
          obtain ⟨i, hi⟩ := hex
          induction i using Nat.strongRecOn with
          | _ i ihh =>
            by_cases h : ∃ j, j < i ∧ (j < ops.size ∧ ¬ InL listed j)
            · obtain ⟨j, hj, hj'⟩ := h
              exact ihh j hj hj'
            · exact ⟨i, hi, fun j hj h' => h ⟨j, hj, h'⟩⟩
        obtain ⟨i, ⟨hi1, hi2⟩, hi3⟩ := hleast
        have hio : ops[i]? = some (ops[i]'hi1) := Array.getElem?_eq_getElem _
        have : i ∈ Region.ready .any ops listed := by
          rw [mem_ready]
          refine ⟨?_, _, hio, fun e he hb => ?_⟩
          · have hil : i < listed.size := by omega
            unfold InL at hi2
            simp [hil] at hi2 ⊢
            exact hi2
          · have hlt := edgesUp_ok ops.toList 0 hup i _ ((Array.getElem?_toList (xs := ops) (i := i)).trans hio) e (by simpa using he) hb
            have := Classical.byContradiction fun h => hi3 e.on (by omega) ⟨by omega, h⟩
            exact this
        rw [hready] at this; cases this
    · intro i hi
      obtain ⟨hi1, o, hi2, hi3⟩ := mem_ready.1 hi
      have hiN : i < ops.size := (Array.getElem?_eq_some_iff.1 hi2).1
      have hil : i < listed.size := by omega
      have hni : ¬ InL listed i := by
        unfold InL
        simp [hil] at hi1 ⊢
        exact hi1
      have hi2' : ops.toList[i]? = some o := (Array.getElem?_toList (xs := ops) (i := i)).trans hi2
      have hr : ∀ e ∈ o.after.toList, Region.binds .any e = true → InL listed e.on := fun e he hb => hi3 e (by simpa using he) hb
      have hl : ∀ j, InL (listed.setIfInBounds i true) j ↔ (InL listed j ∨ j = i) := by
        intro j
        unfold InL
        rw [Array.getD_eq_getD_getElem?, Array.getD_eq_getD_getElem?, Array.getElem?_setIfInBounds]
        by_cases hji : i = j
        · subst hji; simp [hil]
        · rw [if_neg hji]
          constructor
          · intro h; exact .inl h
          · rintro (h | h)
            · exact h
            · exact absurd h.symm hji
      have hdfx : ∀ x, (a.put o.dst x).defers = [] := fun x => by cases o.dst <;> exact hdf
      have hszx : ∀ x, (a.put o.dst x).tmps.size = nt := fun x => by cases o.dst <;> simp [Act.put, ha]
      have hlook := look1 hd hs hc ha I hi2 hni hr
      have hlf' : left ops.size (listed.setIfInBounds i true) ≤ fuel := by
        have : left ops.size (listed.setIfInBounds i true) < left ops.size listed := by
          unfold left
          refine filter_less _ _ _ (fun x _ hx => ?_) ⟨i, List.mem_range.2 hiN, ?_, ?_⟩
          · have := hl x
            unfold InL at this
            cases hx1 : listed.getD x false with
            | false => rfl
            | true => rw [this.2 (.inl hx1)] at hx; exact hx
          · unfold InL at hni
            simpa using hni
          · have := (hl i).2 (.inr rfl)
            unfold InL at this
            rw [this]; rfl
        omega
      have hc' : Closed ops.toList (listed.setIfInBounds i true) := by
        intro j oj hj hjin e he hb
        rw [hl] at hjin ⊢
        left
        rcases hjin with h | h
        · exact hc j oj hj h e he hb
        · subst h
          rw [hj] at hi2'; cases hi2'
          exact hr e he hb
      have reach : ∀ j, Reach ops.toList i j → InL listed j := fun j hR => hR.inL hc fun o' ho e he hb => by rw [hi2'] at ho; cases ho; exact hr e he hb
      -- the step, whichever it is
      have step : ∀ (g g' : H), StepOk P nt ops i o true (Ts i) (Ts (i + 1)) g g' → g.floor = h.floor → HRel ρ g w w0 → (∀ ρ' w', HRel ρ' g' w' w0 → At1 h h2 h3 n (listed.setIfInBounds i true) ρ' w' w0) → wpOp P ops Q i (wpAny P .any ops Q fuel (listed.setIfInBounds i true)) a w := fun g g' S hfl R hAt => by
        obtain ⟨v, g2, e1, e2, e3, e4, e5, e6⟩ := S.ex
        simp only [if_true] at e2 e4 e5
        refine e5 ρ a w w0 _ Q hlook R fun ρ' x w' l1 l2 l3 => ?_
        rw [← e4] at l3
        refine ih _ _ w' ρ' (by simpa using hsz) hlf' hc' (hszx x) (hdfx x) (hE.trans (by rw [← hfl]; exact l1)) (put1 hd hs hc ha I hi2 hni hr hl l1.1 fun q hq => by rw [e1 q hq]; exact l2) (hAt ρ' w' l3)
      have hno : ops[n]? = some (ops[n]'(by omega)) := Array.getElem?_eq_getElem _
      rcases Nat.lt_trichotomy i n with hin | hin | hin
      · obtain ⟨S1, S2, S3⟩ := hq i o hin hi2
        by_cases hBl : InL listed (n + 1)
        · -- a still one, behind all
          rcases S3 with S3 | S3
          · obtain ⟨v, g2, e1, e2, e3, e4, e5, e6⟩ := S1.ex
            refine e6 S3 ρ a w _ Q hlook fun x hx => ih _ _ w ρ (by simpa using hsz) hlf' hc' (hszx x) (hdfx x) hE (put1 hd hs hc ha I hi2 hni hr hl (Emb.le_refl ρ) fun q hq => by rw [e1 q hq]; exact hx) ?_
            obtain ⟨p1, p2⟩ := hp.2.2 hBl
            exact ⟨fun _ h1 => absurd ((hl (n + 1)).2 (.inl hBl)) h1, fun _ h1 => absurd ((hl (n + 1)).2 (.inl hBl)) h1, fun _ => ⟨p1.imp (fun p1 => (hl n).2 (.inl p1)) fun h => h, p2⟩⟩
          · exact absurd (S3.inL hc fun o' ho e he hb => hc (n + 1) o' ho hBl e he hb) hni
        · have hB' : ¬ InL (listed.setIfInBounds i true) (n + 1) := fun h => by rcases (hl _).1 h with h | h; exact hBl h; omega
          by_cases hAl : InL listed n
          · exact step h2 h2 S2 (fl2 _ hno) (hp.2.1 hAl hBl) fun ρ' w' R => ⟨fun h1 => absurd ((hl n).2 (.inl hAl)) h1, fun _ _ => R, fun h1 => absurd h1 hB'⟩
          · have hA' : ¬ InL (listed.setIfInBounds i true) n := fun h => by rcases (hl _).1 h with h | h; exact hAl h; omega
            exact step h h S1 rfl (hp.1 hAl hBl) fun ρ' w' R => ⟨fun _ _ => R, fun h1 => absurd h1 hA', fun h1 => absurd h1 hB'⟩
      · subst hin
        by_cases hBl : InL listed (i + 1)
        · rcases hAB o hi2 with hR | ⟨S3, he⟩
          · exact absurd (hR.inL hc fun o' ho e he hb => hc (i + 1) o' ho hBl e he hb) hni
          · obtain ⟨v, g2, e1, e2, e3, e4, e5, e6⟩ := (hA o hi2).ex
            refine e6 S3 ρ a w _ Q hlook fun x hx => ih _ _ w ρ (by simpa using hsz) hlf' hc' (hszx x) (hdfx x) hE (put1 hd hs hc ha I hi2 hni hr hl (Emb.le_refl ρ) fun q hq => by rw [e1 q hq]; exact hx) ?_
            exact ⟨fun _ h1 => absurd ((hl (i + 1)).2 (.inl hBl)) h1, fun _ h1 => absurd ((hl (i + 1)).2 (.inl hBl)) h1, fun _ => ⟨.inr he, (hp.2.2 hBl).2⟩⟩
        have hB' : ¬ InL (listed.setIfInBounds i true) (i + 1) := fun h => by rcases (hl _).1 h with h | h; exact hBl h; omega
        exact step h h2 (hA o hi2) rfl (hp.1 hni hBl) fun ρ' w' R => ⟨fun h1 => absurd ((hl i).2 (.inr rfl)) h1, fun _ _ => R, fun h1 => absurd h1 hB'⟩
      · have hin : i = n + 1 := by omega
        subst hin
        have hAl : InL listed n ∨ h2 = h := (hAB _ hno).imp (fun h => reach n h) fun h => h.2
        have hR2 : HRel ρ h2 w w0 := by
          by_cases hl1 : InL listed n
          · exact hp.2.1 hl1 hni
          · have := hp.1 hl1 hni
            rcases hAl with h | h
            · exact absurd h hl1
            · rw [h]; exact this
        exact step h2 h3 (hB o hi2) (fl2 _ hno) hR2 fun ρ' w' R => ⟨fun _ h1 => absurd ((hl (n + 1)).2 (.inr rfl)) h1, fun _ h1 => absurd ((hl (n + 1)).2 (.inr rfl)) h1, fun _ => ⟨hAl.imp (fun h => (hl n).2 (.inl h)) fun h => h, R⟩⟩
/-- operations that leave memory alone, and make the same of h and of h2 -/
def Ops2 (P : Program) : List CO → F → H → H → F → Prop
  | [], t, _, _, t' => t' = t
  | o :: l, t, h, h2, t' => ∃ t1, OpRel P o t h t1 h ∧ OpRel P o t h2 t1 h2 ∧ Ops2 P l t1 h h2 t'
theorem stepOf {nt : Nat} {ops : Array Oper} {i : Nat} {o : Oper} (hi : ops[i]? = some o) {b : Bool} {t t1 : F} {h h1 : H} (a : OpRel P ⟨compG nt ops.toList o.guard, dOf nt o.dst, b, compOp P o.op⟩ t h t1 h1) : StepOk P nt ops i o true t t1 h h1 := by
  have a' : DrRel P ⟨compG nt ops.toList o.guard, dOf nt o.dst, true, compOp P o.op⟩ t h t1 h1 := a
  obtain ⟨cf, hcf, e⟩ := drRel_run a'
  obtain ⟨t1', h1', a1, a2⟩ := dr_step hcf hi (ih := fun t h k => k t h) (k := fun _ _ => true) (e _ _)
  obtain ⟨rfl, rfl⟩ := same_of (fun k => (e (fun t h k => k t h) k).symm.trans (a1 k))
  exact a2
theorem ops2_trace {nt : Nat} {ops : Array Oper} (bars : Nat → Bool) {h h2 : H} : ∀ (l : List Oper) (n : Nat) (rest : List Oper), ops.toList.drop n = l ++ rest → ∀ (t t' : F),
    Ops2 P (compOpsWith bars P nt ops.toList (compOp P) n l) t h h2 t' →
    ∃ Ts : Nat → F, Ts n = t ∧ Ts (n + l.length) = t' ∧ ∀ (i : Nat) o, n ≤ i → i < n + l.length → ops[i]? = some o → StepOk P nt ops i o true (Ts i) (Ts (i + 1)) h h ∧ StepOk P nt ops i o true (Ts i) (Ts (i + 1)) h2 h2 := by
  intro l
  induction l with
  | nil =>
    intro n rest hl t t' hk
    obtain rfl : t' = t := hk
    exact ⟨fun _ => t', rfl, rfl, fun i o h1 h2 => by simp at h2; omega⟩
  | cons o l ih =>
    intro n rest hl t t' hk
    have hn : ops[n]? = some o := by
      have : ops.toList[n]? = some o := by
        have := congrArg (fun l => l[0]?) hl
        simpa using this
      simpa using this
    obtain ⟨t1, k1, k2, k3⟩ := hk
    have hl' : ops.toList.drop (n + 1) = l ++ rest := by rw [← List.drop_drop, hl]; rfl
    obtain ⟨Ts, b1, b2, b3⟩ := ih (n + 1) rest hl' _ _ k3
    refine ⟨fun i => if i = n then t else Ts i, by simp, ?_, fun i oi h1 h2 hi => ?_⟩
    · have e1 : n + (o :: l).length = n + 1 + l.length := by simp; omega
      rw [e1]
      simp only [show ¬ n + 1 + l.length = n by omega, if_false]
      exact b2
    · by_cases hin : i = n
      · subst hin
        rw [hn] at hi
        cases hi
        simp only [if_true, show ¬ i + 1 = i by omega, if_false, b1]
        exact ⟨stepOf hn k1, stepOf hn k2⟩
      · simp only [hin, if_false, show ¬ i + 1 = n by omega]
        exact b3 i oi (by omega) (by simp at h2; omega) hi
theorem cow_split {bars : Nat → Bool} {nt : Nat} {all : List Oper} {cop : Op → CR} : ∀ {l : List Oper} {n : Nat} {pre : List CO} {A B : CO}, compOpsWith bars P nt all cop n l = pre ++ [A, B] →
    ∃ lp oa ob, l = lp ++ [oa, ob] ∧ compOpsWith bars P nt all cop n lp = pre ∧ A = ⟨compG nt all oa.guard, dOf nt oa.dst, bars (n + lp.length), cop oa.op⟩ ∧ B = ⟨compG nt all ob.guard, dOf nt ob.dst, bars (n + lp.length + 1), cop ob.op⟩ := by
  intro l n pre
  induction pre generalizing l n with
  | nil =>
    intro A B h
    match l, h with
    | [a, b], h =>
      have h : [(⟨compG nt all a.guard, dOf nt a.dst, bars n, cop a.op⟩ : CO), ⟨compG nt all b.guard, dOf nt b.dst, bars (n + 1), cop b.op⟩] = [A, B] := h
      cases h
      exact ⟨[], a, b, rfl, rfl, rfl, rfl⟩
    | [], h => cases h
    | [a], h => have := congrArg List.length h; simp [compOpsWith] at this
    | a :: b :: c :: r, h => have := congrArg List.length h; simp [compOpsWith] at this
  | cons p pre ih =>
    intro A B h
    match l, h with
    | [], h => cases h
    | o :: l, h =>
      have h1 := (List.cons.inj h).1
      have h2 := (List.cons.inj h).2
      obtain ⟨lp, oa, ob, e1, e2, e3, e4⟩ := ih h2
      refine ⟨o :: lp, oa, ob, by rw [e1]; rfl, by show _ :: compOpsWith bars P nt all cop (n + 1) lp = _; rw [e2, h1], ?_, ?_⟩
      · rw [e3, show n + (o :: lp).length = n + 1 + lp.length by simp; omega]
      · rw [e4, show n + (o :: lp).length = n + 1 + lp.length by simp; omega]
/-- all but the last two leave memory alone; the last one comes behind all that touch it -/
theorem Ok.dw1 (hm : P.follows .mixedOrders = true) {nt : Nat} {t t1 t2 t3 : F} {h h2 h3 : H} {K : X → F → H → Prop} {pre : List CO} {A : CO} {g : G} {d : D} {r : CR}
    (p1 : Ops2 P pre t h h2 t1) (p2 : OpRel P A t1 h t2 h2) (p3 : OpRel P (.mk g d true r) t2 h2 t3 h3) (k : K .normal t3 h3) : Ok P nt (.draws (pre ++ [A, .mk g d true r])) t h K := by
  refine ⟨.normal, t3, h3, by_scopes _ fun c e' hs => ?_, k⟩
  cases c with
  | region id ops draw =>
    have e1 : compRegion P nt ops.toList draw = .draws (pre ++ [A, .mk g d true r]) := e'
    unfold compRegion at e1
    split at e1
    · cases e1
    · split at e1
      · rename_i hd
        have e2 := CC.draws.inj e1
        obtain ⟨lp, oa, ob, l1, l2, l3, l4⟩ := cow_split e2
        obtain ⟨Ts0, b1, b2, b3⟩ := ops2_trace (P := P) (nt := nt) (ops := ops) (h := h) (h2 := h2) _ lp 0 [oa, ob] (by rw [List.drop_zero]; exact l1) t t1 (by rw [l2]; exact p1)
        rw [Nat.zero_add] at b2 b3 l3 l4
        have hn : ops.size = lp.length + 2 := by have := congrArg List.length l1; simpa using this
        have ha : ops[lp.length]? = some oa := by
          have : ops.toList[lp.length]? = some oa := by rw [l1]; simp
          simpa using this
        have hb : ops[lp.length + 1]? = some ob := by
          have : ops.toList[lp.length + 1]? = some ob := by rw [l1]; simp
          simpa using this
        have hbar : barAt P ops.toList (befs ops.toList []) (lp.length + 1) = true := by
          have := l4
          injection this with _ _ e _
          exact e.symm
        have hup : edgesUp 0 ops.toList = true := by simp only [drawsOk, Bool.and_eq_true] at hd; exact hd.1
        have hbr : ∀ (j : Nat) o, j < lp.length + 1 → ops[j]? = some o → still P o.op = false → Reach ops.toList (lp.length + 1) j := fun j o hj ho hst => by
          rcases bar_ok hbar ((Array.getElem?_toList (xs := ops) (i := j)).trans ho) hst (by omega) with h | h
          · have := h.lt hup; omega
          · exact h
        have SA := stepOf ha (by rw [l3] at p2; exact p2)
        have SB := stepOf hb (by have e := l4; rw [hbar] at e; rw [e] at p3; exact p3)
        let Ts : Nat → F := fun i => if i = lp.length + 2 then t3 else if i = lp.length + 1 then t2 else Ts0 i
        have T0 : ∀ i, i ≤ lp.length → Ts i = Ts0 i := fun i hi => by
          show (if i = lp.length + 2 then t3 else if i = lp.length + 1 then t2 else Ts0 i) = _
          rw [if_neg (by omega), if_neg (by omega)]
        have T1 : Ts (lp.length + 1) = t2 := by
          show (if _ then t3 else if _ then t2 else _) = _
          rw [if_neg (by omega), if_pos rfl]
        have T2 : Ts (lp.length + 2) = t3 := by
          show (if _ then t3 else if _ then t2 else _) = _
          rw [if_pos rfl]
        have hA : ∀ o, ops[lp.length]? = some o → StepOk P nt ops lp.length o true (Ts lp.length) (Ts (lp.length + 1)) h h2 := fun o ho => by
          rw [ha] at ho; cases ho
          rw [T0 _ (Nat.le_refl _), T1, b2]; exact SA
        have hB : ∀ o, ops[lp.length + 1]? = some o → StepOk P nt ops (lp.length + 1) o true (Ts (lp.length + 1)) (Ts (lp.length + 2)) h2 h3 := fun o ho => by
          rw [hb] at ho; cases ho
          rw [T1, T2]; exact SB
        have hq : ∀ (i : Nat) o, i < lp.length → ops[i]? = some o → StepOk P nt ops i o true (Ts i) (Ts (i + 1)) h h ∧ StepOk P nt ops i o true (Ts i) (Ts (i + 1)) h2 h2 ∧ (still P o.op = true ∨ Reach ops.toList (lp.length + 1) i) := fun i o hi ho => by
          rw [T0 i (by omega), T0 (i + 1) (by omega)]
          obtain ⟨c1, c2⟩ := b3 i o (Nat.zero_le _) hi ho
          refine ⟨c1, c2, ?_⟩
          cases hst : still P o.op with
          | true => exact .inl rfl
          | false => exact .inr (hbr i o (by omega) ho hst)
        have hs : Frm nt ops Ts := fun i o ho => by
          have hi : i < ops.size := (Array.getElem?_eq_some_iff.1 ho).1
          have S : ∃ g g', StepOk P nt ops i o true (Ts i) (Ts (i + 1)) g g' := by
            rcases Nat.lt_trichotomy i lp.length with h1 | h1 | h1
            · exact ⟨_, _, (hq i o h1 ho).1⟩
            · subst h1; exact ⟨_, _, hA o ho⟩
            · have : i = lp.length + 1 := by omega
              subst this; exact ⟨_, _, hB o ho⟩
          obtain ⟨g, g', S⟩ := S
          exact ⟨S.dst, S.rest⟩
        have hAB : ∀ o, ops[lp.length]? = some o → Reach ops.toList (lp.length + 1) lp.length ∨ (still P o.op = true ∧ h2 = h) := fun o ho => by
          cases hst : still P o.op with
          | false => exact .inl (hbr _ o (by omega) ho hst)
          | true => exact .inr ⟨rfl, (hA o ho).calm hst⟩
        obtain ⟨va, ga, _, ea2, ea3, ea4, _⟩ := SA.ex
        obtain ⟨vb, gb, _, eb2, eb3, eb4, _⟩ := SB.ex
        simp only [if_true] at ea2 ea4 eb2 eb4
        rw [← ea4] at ea2 ea3
        rw [← eb4] at eb2 eb3
        refine ⟨KeepF.trans ea2 ea3 eb2, Nat.le_trans ea3 eb3, fun ρ a w w0 Q A R hQ => wp_region_any hm ?_⟩
        refine any1 hd hn hs hq hA hB hAB (ρ0 := ρ) (w0 := w0) (fun ρ' a' w' q1 q2 q3 => hQ ρ' a' w' q1 (by rw [hn, T2] at q2; exact q2) q3) ops.size _ a _ ρ (by simp) (by unfold left; exact Nat.le_trans (List.length_filter_le _ _) (by simp)) ?_ A.size A.defers (Ext.refl _ _) ?_ ?_
        · intro j o hj hin
          unfold InL at hin
          by_cases hj2 : j < ops.size <;> simp [hj2] at hin
        · intro q h5
          refine ⟨0, Nat.zero_le _, .inl rfl, fun j o hj hdj => ⟨fun h => by omega, fun hin => ?_⟩, by rw [T0 0 (Nat.zero_le _), b1]; exact A.slot q h5⟩
          unfold InL at hin
          by_cases hj2 : j < ops.size <;> simp [hj2] at hin
        · have hno : ∀ j, ¬ InL (Array.replicate ops.size false) j := by
            intro j; unfold InL
            by_cases hj : j < ops.size <;> simp [hj]
          exact ⟨fun _ _ => R.dr _, fun h => absurd h (hno _), fun h => absurd h (hno _)⟩
      · cases e1
  | scope d => exact absurd rfl (hs d)
  | _ => cases e'
/-- a region that draws, where the walk stops -/
def DW (P : Program) (nt : Nat) (l : List CO) (t : F) (h : H) (K : X → F → H → Prop) : Prop := Ok P nt (.draws l) t h K
theorem dwStop {nt : Nat} {l : List CO} {t : F} {h : H} {K : X → F → H → Prop} (a : DW P nt l t h K) : Ok P nt (.draws l) t h K := a
theorem DW.two (hm : P.follows .mixedOrders = true) {nt : Nat} {t t1 t2 t3 : F} {h h2 h3 : H} {K : X → F → H → Prop} {l pre : List CO} {A : CO} {g : G} {d : D} {r : CR} (hl : l = pre ++ [A, .mk g d true r])
    (p1 : Ops2 P pre t h h2 t1) (p2 : OpRel P A t1 h t2 h2) (p3 : OpRel P (.mk g d true r) t2 h2 t3 h3) (k : K .normal t3 h3) : DW P nt l t h K := by
  unfold DW
  rw [hl]
  exact Ok.dw1 hm p1 p2 p3 k
section
variable {r : Run} {t t' : F} {h h1 h2 : H} {v : V} {n : Nat} {b : Bool} {l : List CO}
theorem ops2_c (a : RunRel P (.mk r) t h v h) (a2 : RunRel P (.mk r) t h2 v h2) (k : Ops2 P l (put n v t) h h2 t') : Ops2 P (.mk .none (.some (slOf n)) b (.mk r) :: l) t h h2 t' :=
  ⟨_, ⟨true, fun _ => rfl, .inl ⟨rfl, v, a, fun k => putS k⟩⟩, ⟨true, fun _ => rfl, .inl ⟨rfl, v, a2, fun k => putS k⟩⟩, k⟩
theorem opRel_c (a : RunRel P (.mk r) t h v h1) : OpRel P (.mk .none (.some (slOf n)) b (.mk r)) t h (put n v t) h1 := ⟨true, fun _ => rfl, .inl ⟨rfl, v, a, fun k => putS k⟩⟩
theorem opRel_0 (a : RunRel P (.mk r) t h v h1) : OpRel P (.mk .none .none b (.mk r)) t h t h1 := ⟨true, fun _ => rfl, .inl ⟨rfl, v, a, fun k => rfl⟩⟩
theorem ops2_u (n : Nat) (r : Run) (v : V) (a : RunRel P (.mk r) t h v h) (a2 : RunRel P (.mk r) t h2 v h2) (k : Ops2 P l (put n v t) h h2 t') : Ops2 P (uB n r :: l) t h h2 t' := ops2_c a a2 k
theorem ops2_n : Ops2 P [] t h h2 t := rfl
theorem opRel_u (n : Nat) (r : Run) (a : RunRel P (.mk r) t h v h1) : OpRel P (uB n r) t h (put n v t) h1 := opRel_c a
theorem dw_gen {nt : Nat} {K : X → F → H → Prop} (a : ∀ T, T = t → DW P nt l T h K) : DW P nt l t h K := a t rfl
theorem or_run {K : F → H → Prop} (a : OR P r t h (.w0 [] t K)) : ∃ v h', RunRel P (.mk r) t h v h' ∧ K t h' := by
  obtain ⟨v, h', rr, k⟩ := a
  rw [go_w0, wo_nil] at k
  exact ⟨v, h', rr, k⟩
theorem rv_of (a : OR P r t h (.w 0 [] F.zero fun t' h' => get 0 t' = v ∧ h' = h)) : RunRel P (.mk r) t h v h := by
  obtain ⟨v', h', rr, k⟩ := a
  rw [go_w, wo_nil, get_put', if_pos rfl] at k
  obtain ⟨rfl, rfl⟩ := k
  exact rr
theorem run_appS {el : Nat} {s x : O} {u : V} {c : List UInt8} (e1 : oV s t = u) (e2 : oV x t = sv c) (a : ∀ k, append2 el 1 u c.length (c.map bv) h k = k v h1) : RunRel P (.mk (doAppendS el s x)) t h v h1 := by
  refine ⟨_, cfSome P, fun k => ?_⟩
  show oK x t (fun x => newCellsS x fun n vs => oK s t fun s => append2 el 1 s n vs h k) = _
  rw [oK_eq, e2]
  show unpK c.length (pk c) [] (fun vs => oK s t fun s => append2 el 1 s c.length vs h k) = _
  rw [unpK_map _ _ _ _ rfl, List.append_nil, oK_eq, e1, a]
end
end
end Go.Ev

set_option maxRecDepth 100000
set_option maxHeartbeats 8000000
set_option linter.all false
namespace Go.Proofs.Ytjlhfoadabkahaa
open Go Go.Ev
section
variable {P : Program} {h h' : H} {N : Nx}
noncomputable def fileV (q : B) (g n : Nat) : V := .l q g 0 n n (capF n)
/-- the block that is written when the slice is appended to -/
def fOf (v : V) (q : B) : Prop := ∃ g off n fin cap, v = .l q g off n fin cap ∧ cap ≠ some 0
def FileM (h : H) (v : V) (bs : List UInt8) : Prop :=
  (bs = [] ∧ ∃ id g off fin, v = .l id g off 0 fin (some 0)) ∨
  ∃ q g blk, v = fileV q g bs.length ∧ B.val h.floor ≤ B.val q ∧ B.val q < B.val h.next ∧ h.heap.get q = some blk ∧ blk.min ≤ g ∧ g ≤ blk.cur ∧ bs.length ≤ blk.size ∧ blk.el = 5 ∧ blk.fr ≤ 1 ∧ ∀ i y, (bs.map bv)[i]? = some y → blk.cells.getN i = some y
theorem capF_no0 (n : Nat) : capF n ≠ some 0 := by cases n with | zero => intro h; cases h | succ n => intro h; cases h
theorem fOf_file {q p : B} {g n : Nat} (a : fOf (fileV q g n) p) : p = q := by obtain ⟨_, _, _, _, _, e, _⟩ := a; cases e; rfl
theorem fOf_mk (q : B) (g n : Nat) : fOf (fileV q g n) q := ⟨g, 0, n, n, _, rfl, capF_no0 n⟩
theorem FileM.sl {v : V} {bs : List UInt8} (a : FileM h v bs) : IsSl v ∧ lenV v = bs.length := by
  rcases a with ⟨rfl, id, g, off, fin, rfl⟩ | ⟨q, g, blk, rfl, _⟩
  · exact ⟨.inr ⟨_, _, _, _, _, _, rfl⟩, rfl⟩
  · exact ⟨.inr ⟨_, _, _, _, _, _, rfl⟩, rfl⟩
theorem FileM.ln {v : V} {bs : List UInt8} {g : H} (a : FileM h v bs) : H1 P gLen v g N = N.go P (.i .i64 (bs.length : Int)) g := by rw [a.sl.1.ln, a.sl.2]
theorem FileM.stay {p : B → Prop} {v : V} {bs : List UInt8} (a : FileM h v bs) (s : Stay p h h') (hp : ∀ q, fOf v q → ¬ p q) : FileM h' v bs := by
  rcases a with ⟨rfl, id, g, off, fin, rfl⟩ | ⟨q, g, blk, rfl, a1, a2, a3, a4⟩
  · exact .inl ⟨rfl, _, _, _, _, rfl⟩
  · exact .inr ⟨q, g, blk, rfl, by rw [s.floor]; exact a1, Nat.lt_of_lt_of_le a2 s.next, (s.get q a2 (hp q (fOf_mk ..))).trans a3, a4⟩
theorem FileM.own {v : V} {bs : List UInt8} (a : FileM h v bs) {q : B} (hq : fOf v q) : B.val h.floor ≤ B.val q ∧ B.val q < B.val h.next := by
  rcases a with ⟨rfl, id, g, off, fin, rfl⟩ | ⟨p, g, blk, rfl, a1, a2, a3, a4⟩
  · obtain ⟨_, _, _, _, _, e, e2⟩ := hq
    cases e; exact absurd rfl e2
  · rw [fOf_file hq]; exact ⟨a1, a2⟩
theorem FileM.rd {v : V} {bs : List UInt8} (a : FileM h v bs) : RdB h v bs := fun N => by
  rcases a with ⟨rfl, id, g, off, fin, rfl⟩ | ⟨q, g, blk, rfl, a1, a2, a3, a4, a5, a6, a7, a8, a9⟩
  · exact hv_of fun k => rfl
  · cases bs with
    | nil => exact hv_of fun k => rfl
    | cons c r =>
      have hL : Lst h (fileV q g (c :: r).length) ((c :: r).map bv) := by
        refine .inr ⟨q, g, 0, (c :: r).length, capF (c :: r).length, by rw [List.length_map]; rfl, by rw [List.length_map]; omega, a2, fun _ => ⟨blk, a3, a4⟩, fun i y hy => ?_⟩
        unfold Ev.cell cellB
        rw [a3]
        show (if blk.min ≤ g then blk.cells.getN (0 + i) else none) = _
        rw [if_pos a4, Nat.zero_add]
        exact a9 i y hy
      exact hL.bs (by simp)
/-- the first k bytes of a file -/
noncomputable def fCut (v : V) (k : Nat) : V := match v with
  | .l q g off _ fin cap => if cap = some 0 then v else .l q g off k k (capF k)
  | _ => v
theorem fCut_of {v : V} {k : Nat} {q : B} (a : fOf (fCut v k) q) : fOf v q := by
  unfold fCut at a
  split at a
  · split at a
    · exact a
    · rename_i h
      obtain ⟨g, off, n, fin, cap, e, e2⟩ := a
      cases e
      exact ⟨_, _, _, _, _, rfl, h⟩
  · exact a
theorem capS_F {k n : Nat} (h : 1 ≤ n) : capS k n = capF k := by
  cases k with
  | zero => cases n with | zero => omega | succ n => rfl
  | succ k => rfl
theorem FileM.cut {v : V} {bs : List UInt8} {k : Nat} (a : FileM h v bs) (hk : k ≤ bs.length) : FileM h (fCut v k) (bs.take k) ∧ ∀ (kd : IntKind) (g : H) (N : Nx), H2 P (slHiV 1) v (.i kd (k : Int)) g N = N.go P (fCut v k) g := by
  have e0 : Nat.ble 0 k = true := by rw [Nat.ble_eq]; exact Nat.zero_le _
  rcases a with ⟨rfl, id, g, off, fin, rfl⟩ | ⟨q, g, blk, rfl, a1, a2, a3, a4, a5, a6, a7, a8, a9⟩
  · have hk0 : k = 0 := by simpa using hk
    subst hk0
    have e : fCut (.l id g off 0 fin (some 0)) 0 = .l id g off 0 fin (some 0) := by unfold fCut; exact if_pos rfl
    rw [e]
    refine ⟨.inl ⟨rfl, _, _, _, _, rfl⟩, fun kd g0 N => hv_of fun q => ?_⟩
    unfold slHiV
    simp only [vL_l, vI_i, natK_cast, e0, ifK_true]
    rfl
  · have e : fCut (fileV q g bs.length) k = fileV q g k := by unfold fCut fileV; exact if_neg (capF_no0 _)
    rw [e]
    have hl : (bs.take k).length = k := by rw [List.length_take]; omega
    refine ⟨.inr ⟨q, g, blk, by rw [hl], a1, a2, a3, a4, a5, by rw [hl]; omega, a7, a8, fun i y hy => a9 i y ?_⟩, fun kd g0 N => hv_of fun f => ?_⟩
    · rw [List.map_take, List.getElem?_take] at hy
      split at hy
      · exact hy
      · cases hy
    · unfold slHiV fileV
      simp only [vL_l, vI_i, natK_cast, e0, ifK_true]
      cases hn : bs.length with
      | zero =>
        have hk0 : k = 0 := by omega
        subst hk0
        rfl
      | succ n =>
        show sliceN 1 q g 0 (n + 1) (n + 1) 0 k f = _
        have e1 : Nat.ble k (n + 1) = true := by rw [Nat.ble_eq]; omega
        have e2 : Nat.beq (n + 1) (Nat.add 0 (Nat.mul (n + 1) 1)) = true := by
          show Nat.beq (n + 1) (0 + (n + 1) * 1) = true
          rw [Nat.mul_one, Nat.zero_add]; exact Nat.beq_refl _
        unfold sliceN
        rw [e1, ifK_true, e2, ifK_true, fN_eq, fN_eq, fN_eq]
        show f (.l q g (0 + 0 * 1) (k - 0) (0 + k * 1) (capS k (n + 1))) = _
        rw [capS_F (by omega)]; simp
theorem append2_flag {el size : Nat} {id : B} {g off len fin n : Nat} {vs : List V} {k : V → H → Bool} : append2 el size (.l id g off len fin (some 18446744073709551616)) n vs h k = appGrow (selB (Nat.ble 1 len) (Nat.beq size 1)) el id g off len fin size n vs h k := by
  show boolK (flagB 18446744073709551616) (fun _ => appGrow (selB (Nat.ble 1 len) (Nat.beq size 1)) el id g off len fin size n vs h k) (fun _ => boolK (Nat.ble (Nat.add len n) 18446744073709551616) (fun _ => appIn id g off len fin 18446744073709551616 size n vs h k) fun _ => appOut el id g off len fin size n vs h k) = _
  rw [flagB_M, boolK_true]
/-- .. grows -/
theorem FileM.app2 {v : V} {bs b : List UInt8} (a : FileM h v bs) (hf : B.val h.floor ≤ B.val h.next) (hl : bs.length + b.length ≤ 1048576) :
    ∃ v' h', (∀ k, append2 5 1 v b.length (b.map bv) h k = k v' h') ∧ FileM h' v' (bs ++ b) ∧ Stay (fOf v) h h' ∧ ∀ q, fOf v' q → fOf v q ∨ B.val h.next ≤ B.val q := by
  have h1 : allOne (b.map bv) = true := allOne_bv b
  rcases a with ⟨rfl, id, g, off, fin, rfl⟩ | ⟨q, g, ⟨cur, min, sz, cells, bel, fr⟩, rfl, a1, a2, a3, a4, a5, a6, a7, a8, a9⟩
  · cases b with
    | nil => exact ⟨.l id g off 0 fin (some 0), h, fun k => rfl, .inl ⟨rfl, _, _, _, _, rfl⟩, Stay.refl _ _, fun q hq => .inl hq⟩
    | cons c r =>
      obtain ⟨h', b1, b2, b3, blk, c1, c2, c3, c4, c5, c6, c7⟩ := alloc_new 5 ((c :: r).map bv) h (by rw [List.length_map]; simp at hl ⊢; omega)
      have hble : Nat.ble (Nat.add 0 (r.length + 1)) 1048576 = true := by rw [Nat.ble_eq]; simp at hl; show 0 + (r.length + 1) ≤ _; omega
      have hn : Nat.ble (Nat.add 0 (r.length + 1)) 0 = false := by
        cases hx : Nat.ble (Nat.add 0 (r.length + 1)) 0 with
        | false => rfl
        | true => have := Nat.le_of_ble_eq_true hx; have h2 : 0 + (r.length + 1) ≤ 0 := this; omega
      refine ⟨fileV h.next 0 (c :: r).length, h', fun k => ?_, .inr ⟨h.next, 0, blk, rfl, by rw [b2.floor]; exact hf, by omega, c1, by omega, by omega, by rw [c4, List.length_map]; exact Nat.le_refl _, c5, by omega, c7⟩, b2.mono fun _ _ h => h.elim, fun q hq => .inr (by rw [fOf_file hq]; exact Nat.le_refl _)⟩
      show boolK (flagB 0) (fun _ => appGrow (selB (Nat.ble 1 0) (Nat.beq 1 1)) 5 id g off 0 fin 1 (r.length + 1) ((c :: r).map bv) h k) (fun _ => boolK (Nat.ble (Nat.add 0 (r.length + 1)) 0) (fun _ => appIn id g off 0 fin 0 1 (r.length + 1) ((c :: r).map bv) h k) fun _ => appOut 5 id g off 0 fin 1 (r.length + 1) ((c :: r).map bv) h k) = _
      rw [flagB_of (by omega), boolK_false, hn, boolK_false]
      unfold appOut
      rw [hble, ifK_true]
      show alloc 5 (app [] ((c :: r).map bv)) h (fun id h => fN (Nat.add 0 (r.length + 1)) fun l' => fN (Nat.mul l' 1) fun fin' => k (.l id 0 0 l' fin' none) h) = _
      rw [app_eq, List.nil_append, b1, fN_eq, fN_eq]
      show k (.l h.next 0 0 (0 + (r.length + 1)) ((0 + (r.length + 1)) * 1) none) h' = _
      rw [Nat.zero_add, Nat.mul_one]; rfl
  · obtain ⟨next, floor, heap⟩ := h
    simp only at a1 a2 a3 a4 a5 a6 a7 a8 a9
    obtain ⟨tr, t1, t2, t3⟩ := setList_fine (b.map bv) bs.length cells (by rw [List.length_map]; omega)
    obtain ⟨min', hmin⟩ : ∃ m, selN (Nat.beq bs.length sz) min (Nat.succ cur) = m := ⟨_, rfl⟩
    have hmle : min' ≤ cur + 1 := by rw [← hmin]; cases Nat.beq bs.length sz <;> (simp [selN]; try omega)
    obtain ⟨hp, s1, s2, s3⟩ := setK_ok q (⟨Nat.succ cur, min', Nat.add bs.length (Nat.mul b.length 1), tr, bel, fr⟩ : Blk) heap
    have e1 : Nat.ble min g = true := by rw [Nat.ble_eq]; exact a4
    have e2 : B.geB floor q = true := by cases floor <;> first | rfl | (show Nat.ble _ _ = true; rw [Nat.ble_eq]; exact a1)
    have e3 : Nat.add 0 (Nat.mul bs.length 1) = bs.length := by show 0 + bs.length * 1 = _; omega
    have e3' : Nat.ble bs.length sz = true := by rw [Nat.ble_eq]; exact a6
    have e4 : Nat.beq bs.length bs.length = true := Nat.beq_refl _
    have e6 : Nat.ble (Nat.add bs.length b.length) 1048576 = true := by rw [Nat.ble_eq]; exact hl
    have e7 : frOk fr bs.length = true := by
      match fr, a8 with
      | 0, _ => rfl
      | 1, _ => rfl
    have e8 : Nat.beq bel 5 = true := by rw [a7]; rfl
    have key : ∀ (z : Bool) k, z = true → appGrow z 5 q g 0 bs.length bs.length 1 b.length (b.map bv) ⟨next, floor, heap⟩ k = k (fileV q (cur + 1) (bs ++ b).length) ⟨next, floor, hp⟩ := fun z k hz => by
      have a3' : heap.get q = some ⟨cur, min, sz, cells, bel, fr⟩ := a3
      simp only [appGrow, hK_mk, a3', optK_some, blkK_mk, fN_eq, e3, e1, e2, e3', e4, hmin, hz, e6, h1, e7, e8, ifK_true]
      rw [t1, s1]
      show k (.l q (cur + 1) 0 (bs.length + b.length) (bs.length + b.length * 1) (capF (bs.length + b.length))) _ = _
      unfold fileV
      rw [List.length_append, Nat.mul_one]
    refine ⟨fileV q (cur + 1) (bs ++ b).length, ⟨next, floor, hp⟩, fun k => ?_, .inr ⟨q, cur + 1, _, rfl, a1, a2, s2, hmle, Nat.le_refl _, by rw [List.length_append]; show _ ≤ bs.length + b.length * 1; omega, a7, a8, fun i y hy => ?_⟩, ⟨rfl, Nat.le_refl _, fun i _ hi => s3 i fun e => hi (by rw [e]; exact fOf_mk ..)⟩, fun p hp => .inl (by rw [fOf_file hp]; exact fOf_mk ..)⟩
    · cases hn : bs.length with
      | zero =>
        show append2 5 1 (.l q g 0 0 0 (some 18446744073709551616)) b.length (b.map bv) ⟨next, floor, heap⟩ k = _
        rw [append2_flag]
        have := key (selB (Nat.ble 1 0) (Nat.beq 1 1)) k rfl
        rwa [hn] at this
      | succ n =>
        show appGrow (Nat.ble 1 (n + 1)) 5 q g 0 (n + 1) (n + 1) 1 b.length (b.map bv) ⟨next, floor, heap⟩ k = _
        have := key (Nat.ble 1 (n + 1)) k (by rw [Nat.ble_eq]; omega)
        rwa [hn] at this
    · show tr.getN i = some y
      rw [List.map_append] at hy
      by_cases hi : i < bs.length
      · rw [t3 i (.inl (by omega))]
        refine a9 i y ?_
        rwa [List.getElem?_append_left (by rw [List.length_map]; exact hi)] at hy
      · rw [List.getElem?_append_right (by rw [List.length_map]; omega), List.length_map] at hy
        have := t2 (i - bs.length) y hy
        rwa [show bs.length + (i - bs.length) = i by omega] at this
theorem SB.file {c : List UInt8} (hf : B.val h.floor ≤ B.val h.next) (hl : c.length ≤ 1048576)
    (k : ∀ h', Stay nowhere h h' → B.val h'.next = B.val h.next + 1 → FileM h' (fileV h.next 0 c.length) c → N.go P (fileV h.next 0 c.length) h') : SB P 5 (sv c) h N := by
  obtain ⟨h', a1, a2, a3, a4, a5, cs, a6, a7⟩ := s2b_new 5 hf hl
  have := fun k => a1 (.c (sv c)) F.zero (fun _ _ _ _ => false) k rfl
  refine hm_of (v := fileV h.next 0 c.length) (h' := h') (fun k => ?_) (k h' a2 a3 (.inr ⟨h.next, 0, _, rfl, by rw [a2.floor]; exact hf, by omega, a6, Nat.le_refl _, Nat.le_refl _, Nat.le_refl _, rfl, Nat.le_refl _, a7⟩))
  have e := this k
  simp only [doS2B, oE_eq] at e
  exact e
end
end Go.Proofs.Ytjlhfoadabkahaa

set_option maxRecDepth 100000
set_option maxHeartbeats 8000000
set_option linter.all false
namespace Go.Proofs.Ytjlhfoadabkahaa
open Go Go.Ev
section
variable {h : H}
/-- what Put tells -/
def putErr (rm : Int) (E : En) (k b : List UInt8) : Int := if nameP k = false then 10 else if (getE E k).isSome then 14 else if 60 ≤ E.length ∨ max (rm - (usedE E : Int)) 0 < (b.length : Int) then 15 else 0
theorem put_err {s : B} {f : Nat} {rm : Int} {fl lo : V} {E : En} {k b : List UInt8} (r : Row h s 0 0 [.i .i64 rm, fl, lo]) (hf : 3 ≤ f) (m : MpB h fl E) (hE : ∀ p ∈ E, IsSl p.2) (hl : usedE E ≤ 9223372036854775807) (h0 : 0 ≤ rm) (h1 : rm ≤ 1000000) (hk : k.length ≤ 9223372036854775807) (hb : b.length ≤ 9223372036854775807)
    (he : putErr rm E k b ≠ 0) : FnOk Try.prog 16 [.p s 0 0 f, sv k, sv b] h fun y h' => y = .i .i64 (putErr rm E k b) ∧ h' = h := by
  refine fn_go c16 (by intro hb; cases hb) (by simp) (by simp) fun Q hQ => ?_
  simp only [slotsF, Nat.reduceAdd]
  repeat' (first
    | refine St.h ?_
    | simp (disch := first | omega | (simp only [lnv]; omega)) only [wlk, mwk, ↓get_put', ↓reduceIte, Nat.min_eq_left, seval]
    | (with_reducible (first | apply cd_split | apply gd_split)) <;> (intro hc; (try simp only [hcn] at hc); (try simp only [hc]); (try simp only [hcl] at hc); try omega))
  refine CL.pure (isName_ok hk) ?_
  cases hn : nameP k with
  | false =>
    repeat' (first
      | refine St.h ?_
      | simp (disch := first | omega | (simp only [lnv]; omega)) only [wlk, mwk, ↓get_put', ↓reduceIte, Nat.min_eq_left, seval]
      | (with_reducible (first | apply cd_split | apply gd_split)) <;> (intro hc; (try simp only [hcn] at hc); (try simp only [hc]); (try simp only [hcl] at hc); try omega))
    subst hQ
    exact ⟨by unfold putErr; rw [if_pos hn], rfl⟩
  | true =>
  cases hg : getE E k with
  | some v =>
    repeat' (first
      | refine St.h ?_
      | simp (disch := first | omega | (simp only [lnv]; omega)) only [wlk, mwk, ↓get_put', ↓reduceIte, Nat.min_eq_left, seval, r.l1, m.lk, hg]
      | (with_reducible (first | apply cd_split | apply gd_split)) <;> (intro hc; (try simp only [hcn] at hc); (try simp only [hc]); (try simp only [hcl] at hc); try omega))
    subst hQ
    exact ⟨by unfold putErr; rw [if_neg (by rw [hn]; decide), hg]; rfl, rfl⟩
  | none =>
  have hee : putErr rm E k b = if 60 ≤ E.length ∨ max (rm - (usedE E : Int)) 0 < (b.length : Int) then 15 else 0 := by unfold putErr; rw [if_neg (by rw [hn]; decide), hg]; rfl
  by_cases h60 : 60 ≤ E.length
  · repeat' (first
      | refine St.h ?_
      | simp (disch := first | omega | (simp only [lnv]; omega)) only [wlk, mwk, ↓get_put', ↓reduceIte, Nat.min_eq_left, seval, r.l1, m.lk, m.ln, hg]
      | (with_reducible (first | apply cd_split | apply gd_split)) <;> (intro hc; (try simp only [hcn] at hc); (try simp only [hc]); (try simp only [hcl] at hc); try omega))
    subst hQ
    exact ⟨by rw [hee, if_pos (.inl h60)], rfl⟩
  · repeat' (first
      | refine St.h ?_
      | simp (disch := first | omega | (simp only [lnv]; omega)) only [wlk, mwk, ↓get_put', ↓reduceIte, Nat.min_eq_left, seval, r.l1, m.lk, m.ln, hg]
      | (with_reducible (first | apply cd_split | apply gd_split)) <;> (intro hc; (try simp only [hcn] at hc); (try simp only [hc]); (try simp only [hcl] at hc); try omega))
    refine CL.pure (left_ok r hf m hE hl h0 h1) ?_
    by_cases hlt : max (rm - (usedE E : Int)) 0 < (b.length : Int)
    · repeat' (first
        | refine St.h ?_
        | simp (disch := first | omega | (simp only [lnv]; omega)) only [wlk, mwk, ↓get_put', ↓reduceIte, Nat.min_eq_left, seval, r.l1, m.lk, m.ln, hg]
        | (with_reducible (first | apply cd_split | apply gd_split)) <;> (intro hc; (try simp only [hcn] at hc); (try simp only [hc]); (try simp only [hcl] at hc); try omega))
      subst hQ
      exact ⟨by rw [hee, if_pos (.inr hlt)], rfl⟩
    · exact absurd (by rw [hee, if_neg (fun e => e.elim h60 hlt)]) he
/-- .. into a shelf that has its map already -/
theorem put_ok {s id : B} {rm : Int} {lo : V} {E : En} {acts : List V} {k b : List UInt8} (o : Ev.Own h s [.i .i64 rm, .m id, lo]) (m : MapC h id E) (bf : Buf h 84 6 lo acts) (hsi : s ≠ id) (hls : ¬ isOf lo s) (hli : ¬ isOf lo id) (hf : B.val h.floor ≤ B.val h.next)
    (hla : acts.length + 6 ≤ 1048576) (hE : ∀ p ∈ E, IsSl p.2) (hl : usedE E ≤ 9223372036854775807) (h0 : 0 ≤ rm) (h1 : rm ≤ 1000000) (hk : k.length ≤ 9223372036854775807) (hb : b.length ≤ 9223372036854775807)
    (he : putErr rm E k b = 0) : FnOk Try.prog 16 [.p s 0 0 3, sv k, sv b] h fun y h' => y = .i .i64 0 ∧ ∃ lo' q, B.val h.next ≤ B.val q ∧ q ≠ id ∧ Ev.Own h' s [.i .i64 rm, .m id, lo'] ∧ MapC h' id (setE E k (fileV q 0 b.length)) ∧ FileM h' (fileV q 0 b.length) b ∧
      Buf h' 84 6 lo' (acts ++ actV 1 k [] 0 .l0 false) ∧ Stay (fun i => i = s ∨ i = id ∨ isOf lo i) h h' ∧ (∀ i, isOf lo' i → (isOf lo i ∨ B.val h.next ≤ B.val i) ∧ i ≠ q) := by
  have hn : nameP k = true := by
    cases hn : nameP k with
    | true => rfl
    | false => unfold putErr at he; rw [if_pos hn] at he; cases he
  have hg : getE E k = none := by
    cases hg : getE E k with
    | none => rfl
    | some v => unfold putErr at he; rw [if_neg (by rw [hn]; decide), hg] at he; cases he
  have hcap : ¬ (60 ≤ E.length ∨ max (rm - (usedE E : Int)) 0 < (b.length : Int)) := fun e => by unfold putErr at he; rw [if_neg (by rw [hn]; decide), hg] at he; simp only [Option.isSome_none, Bool.false_eq_true, if_false] at he; rw [if_pos e] at he; cases he
  have h60 : ¬ 60 ≤ E.length := fun e => hcap (.inl e)
  have hlt : ¬ max (rm - (usedE E : Int)) 0 < (b.length : Int) := fun e => hcap (.inr e)
  have hb2 : b.length ≤ 1048576 := by omega
  refine fn_go c16 (by intro hb; cases hb) (by simp) (by simp) fun Q hQ => ?_
  simp only [slotsF, Nat.reduceAdd]
  repeat' (first
    | refine St.h ?_
    | simp (disch := first | omega | (simp only [lnv]; omega)) only [wlk, mwk, ↓get_put', ↓reduceIte, Nat.min_eq_left, seval]
    | (with_reducible (first | apply cd_split | apply gd_split)) <;> (intro hc; (try simp only [hcn] at hc); (try simp only [hc]); (try simp only [hcl] at hc); try omega))
  refine CL.pure (isName_ok hk) ?_
  repeat' (first
    | refine St.h ?_
    | simp (disch := first | omega | (simp only [lnv]; omega)) only [wlk, mwk, ↓get_put', ↓reduceIte, Nat.min_eq_left, seval, hn, o.row.l1, m.lk, m.ln, hg]
    | (with_reducible (first | apply cd_split | apply gd_split)) <;> (intro hc; (try simp only [hcn] at hc); (try simp only [hc]); (try simp only [hcl] at hc); try omega))
  refine CL.pure (left_ok o.row (by omega) (.inr ⟨id, rfl, m.b⟩) hE hl h0 h1) ?_
  repeat' (first
    | refine St.h ?_
    | simp (disch := first | omega | (simp only [lnv]; omega)) only [wlk, mwk, ↓get_put', ↓reduceIte, Nat.min_eq_left, seval, hn, o.row.l1, m.lk, m.ln, hg]
    | (with_reducible (first | apply cd_split | apply gd_split)) <;> (intro hc; (try simp only [hcn] at hc); (try simp only [hc]); (try simp only [hcl] at hc); try omega))
  have hslt : B.val s < B.val h.next := by obtain ⟨_, _, _, _, _, _, h6, _⟩ := o; exact h6
  have hqi : h.next ≠ id := fun e => by have := m.lt; rw [← e] at this; exact absurd this (Nat.lt_irrefl _)
  have hqs : h.next ≠ s := fun e => by have := hslt; rw [← e] at this; exact absurd this (Nat.lt_irrefl _)
  refine SB.file hf hb2 fun h2 s2 n2 q2 => ?_
  have o2 := o.stay s2 (fun h => h)
  have m2 := m.stay s2 (fun h => h)
  have bf2 := bf.grow s2
  repeat' (first
    | refine St.h ?_
    | simp (disch := first | omega | (simp only [lnv]; omega)) only [wlk, mwk, ↓get_put', ↓reduceIte, Nat.min_eq_left, seval, o2.row.l1]
    | (with_reducible (first | apply cd_split | apply gd_split)) <;> (intro hc; (try simp only [hcn] at hc); (try simp only [hc]); (try simp only [hcl] at hc); try omega))
  refine MU.mk m2 (by omega) fun h3 m3 s3 => ?_
  have o3 := o2.stay s3 hsi
  have bf3 := bf2.stay s3 (fun i hi e => hli (by rw [← e]; exact hi))
  have q3 := FileM.stay q2 s3 fun p hp => by rw [fOf_file hp]; exact hqi
  repeat' (first
    | refine St.h ?_
    | simp (disch := first | omega | (simp only [lnv]; omega)) only [wlk, mwk, ↓get_put', ↓reduceIte, Nat.min_eq_left, seval, o3.row.l1]
    | (with_reducible (first | apply cd_split | apply gd_split)) <;> (intro hc; (try simp only [hcn] at hc); (try simp only [hc]); (try simp only [hcl] at hc); try omega))
  refine AL.own (by simp) (s3.fl (s2.fl hf)) fun h4 s4 n4 o4 => ?_
  repeat' (first
    | refine St.h ?_
    | simp (disch := first | omega | (simp only [lnv]; omega)) only [wlk, mwk, ↓get_put', ↓reduceIte, Nat.min_eq_left, seval, o3.row.l1]
    | (with_reducible (first | apply cd_split | apply gd_split)) <;> (intro hc; (try simp only [hcn] at hc); (try simp only [hc]); (try simp only [hcl] at hc); try omega))
  refine AP.buf (vs := actV 1 k [] 0 .l0 false) (cnt := 1) (bf3.grow s4) (new_row o4.row rfl (Nat.le_refl _) (by omega) (by show 6 ≤ 6; omega)) (s4.fl (s3.fl (s2.fl hf))) (by omega) rfl (act_one (.inl rfl)) (by simp [actV]; omega) fun lo' h5 b5 s5 hv5 tp => ?_
  have o5 := (o3.stay s4 (fun h => h)).stay s5 hls
  repeat' (first
    | refine St.h ?_
    | simp (disch := first | omega | (simp only [lnv]; omega)) only [wlk, mwk, ↓get_put', ↓reduceIte, Nat.min_eq_left, seval, o5.row.l1]
    | (with_reducible (first | apply cd_split | apply gd_split)) <;> (intro hc; (try simp only [hcn] at hc); (try simp only [hc]); (try simp only [hcl] at hc); try omega))
  refine ST.own o5 (buf_cells b5).1 (buf_cells b5).2 (by omega) (by omega) fun h6 o6 s6 => ?_
  repeat' (first
    | refine St.h ?_
    | simp (disch := first | omega | (simp only [lnv]; omega)) only [wlk, mwk, ↓get_put', ↓reduceIte, Nat.min_eq_left, seval]
    | (with_reducible (first | apply cd_split | apply gd_split)) <;> (intro hc; (try simp only [hcn] at hc); (try simp only [hc]); (try simp only [hcl] at hc); try omega))
  subst hQ
  have n3 := s3.next
  have hlq : ¬ isOf lo h.next := fun e => absurd (bf.own e).2 (Nat.lt_irrefl _)
  have hl' : ∀ i, isOf lo' i → (isOf lo i ∨ B.val h.next ≤ B.val i) ∧ i ≠ h.next := fun i hi => by
    rcases hv5 i hi with e | e
    · exact ⟨.inl e, fun e2 => hlq (by rw [← e2]; exact e)⟩
    · exact ⟨.inr (by omega), fun e2 => by rw [e2] at e; omega⟩
  have hl5 : ¬ isOf lo' s := fun e => (hv5 _ e).elim hls fun e => by omega
  refine ⟨rfl, lo', h.next, Nat.le_refl _, hqi, o6, ((m3.stay s4 (fun h => h)).stay s5 hli).stay s6 (fun e => hsi e.symm), FileM.stay (FileM.stay (FileM.stay q3 s4 (fun _ _ h => h)) s5 (fun p hp => by rw [fOf_file hp]; exact hlq)) s6 (fun p hp => by rw [fOf_file hp]; exact hqs), b5.stay s6 (fun i hi e => hl5 (by rw [← e]; exact hi)), ?_, hl'⟩
  exact ((((s2.mono fun _ _ e => e.elim).trans (s3.mono fun _ _ e => .inr (.inl e))).trans (s4.mono fun _ _ e => e.elim)).trans (s5.mono fun _ _ e => .inr (.inr e))).trans (s6.mono fun _ _ e => .inl e)
/-- .. into a shelf that has none yet -/
theorem put_new {s : B} {rm : Int} {lo : V} {acts : List V} {k b : List UInt8} (o : Ev.Own h s [.i .i64 rm, .m0, lo]) (bf : Buf h 84 6 lo acts) (hls : ¬ isOf lo s) (hf : B.val h.floor ≤ B.val h.next)
    (hla : acts.length + 6 ≤ 1048576) (h0 : 0 ≤ rm) (h1 : rm ≤ 1000000) (hk : k.length ≤ 9223372036854775807) (hb : b.length ≤ 9223372036854775807)
    (he : putErr rm [] k b = 0) : FnOk Try.prog 16 [.p s 0 0 3, sv k, sv b] h fun y h' => y = .i .i64 0 ∧ ∃ lo' q id, B.val h.next ≤ B.val q ∧ B.val h.next ≤ B.val id ∧ q ≠ id ∧ Ev.Own h' s [.i .i64 rm, .m id, lo'] ∧ MapC h' id (setE [] k (fileV q 0 b.length)) ∧ FileM h' (fileV q 0 b.length) b ∧
      Buf h' 84 6 lo' (acts ++ actV 1 k [] 0 .l0 false) ∧ Stay (fun i => i = s ∨ isOf lo i) h h' ∧ (∀ i, isOf lo' i → (isOf lo i ∨ B.val h.next ≤ B.val i) ∧ i ≠ q ∧ i ≠ id) := by
  have hn : nameP k = true := by
    cases hn : nameP k with
    | true => rfl
    | false => unfold putErr at he; rw [if_pos hn] at he; cases he
  have hg : getE ([] : En) k = none := rfl
  have hcap : ¬ (60 ≤ ([] : En).length ∨ max (rm - (usedE [] : Int)) 0 < (b.length : Int)) := fun e => by unfold putErr at he; rw [if_neg (by rw [hn]; decide), hg] at he; simp only [Option.isSome_none, Bool.false_eq_true, if_false] at he; rw [if_pos e] at he; cases he
  have hu : usedE [] = 0 := rfl
  have hlt : ¬ max (rm - (usedE [] : Int)) 0 < (b.length : Int) := fun e => hcap (.inr e)
  have hb2 : b.length ≤ 1048576 := by omega
  refine fn_go c16 (by intro hb; cases hb) (by simp) (by simp) fun Q hQ => ?_
  simp only [slotsF, Nat.reduceAdd]
  repeat' (first
    | refine St.h ?_
    | simp (disch := first | omega | (simp only [lnv]; omega)) only [wlk, mwk, ↓get_put', ↓reduceIte, Nat.min_eq_left, seval]
    | (with_reducible (first | apply cd_split | apply gd_split)) <;> (intro hc; (try simp only [hcn] at hc); (try simp only [hc]); (try simp only [hcl] at hc); try omega))
  refine CL.pure (isName_ok hk) ?_
  repeat' (first
    | refine St.h ?_
    | simp (disch := first | omega | (simp only [lnv]; omega)) only [wlk, mwk, ↓get_put', ↓reduceIte, Nat.min_eq_left, seval, hn, o.row.l1]
    | (with_reducible (first | apply cd_split | apply gd_split)) <;> (intro hc; (try simp only [hcn] at hc); (try simp only [hc]); (try simp only [hcl] at hc); try omega))
  refine CL.pure (left_ok (E := []) o.row (by omega) (.inl ⟨rfl, rfl⟩) (by simp) (by rw [hu]; omega) h0 h1) ?_
  repeat' (first
    | refine St.h ?_
    | simp (disch := first | omega | (simp only [lnv]; omega)) only [wlk, mwk, ↓get_put', ↓reduceIte, Nat.min_eq_left, seval, hn, o.row.l1]
    | (with_reducible (first | apply cd_split | apply gd_split)) <;> (intro hc; (try simp only [hcn] at hc); (try simp only [hc]); (try simp only [hcl] at hc); try omega))
  have hslt : B.val s < B.val h.next := by obtain ⟨_, _, _, _, _, _, h6, _⟩ := o; exact h6
  have his : h.next ≠ s := fun e => by have := hslt; rw [← e] at this; exact absurd this (Nat.lt_irrefl _)
  have hli : ¬ isOf lo h.next := fun e => absurd (bf.own e).2 (Nat.lt_irrefl _)
  refine MN.mk hf fun ha ma sa na => ?_
  have oa := o.stay sa (fun h => h)
  have bfa := bf.grow sa
  repeat' (first
    | refine St.h ?_
    | simp (disch := first | omega | (simp only [lnv]; omega)) only [wlk, mwk, ↓get_put', ↓reduceIte, Nat.min_eq_left, seval, oa.row.l1]
    | (with_reducible (first | apply cd_split | apply gd_split)) <;> (intro hc; (try simp only [hcn] at hc); (try simp only [hc]); (try simp only [hcl] at hc); try omega))
  refine ST.own oa rfl rfl (by omega) (by omega) fun hz oz sz => ?_
  have oz : Ev.Own hz s [.i .i64 rm, .m h.next, lo] := oz
  have mz := ma.stay sz his
  have bfz := bfa.stay sz (fun i hi e => hls (by rw [← e]; exact hi))
  have nz := sz.next
  repeat' (first
    | refine St.h ?_
    | simp (disch := first | omega | (simp only [lnv]; omega)) only [wlk, mwk, ↓get_put', ↓reduceIte, Nat.min_eq_left, seval, oz.row.l1]
    | (with_reducible (first | apply cd_split | apply gd_split)) <;> (intro hc; (try simp only [hcn] at hc); (try simp only [hc]); (try simp only [hcl] at hc); try omega))
  refine SB.file (sz.fl (sa.fl hf)) hb2 fun h2 s2 n2 q2 => ?_
  have hqi : hz.next ≠ h.next := fun e => by rw [e] at nz; omega
  have hqs : hz.next ≠ s := fun e => by rw [e] at nz; omega
  have o2 := oz.stay s2 (fun h => h)
  have m2 := mz.stay s2 (fun h => h)
  have bf2 := bfz.grow s2
  repeat' (first
    | refine St.h ?_
    | simp (disch := first | omega | (simp only [lnv]; omega)) only [wlk, mwk, ↓get_put', ↓reduceIte, Nat.min_eq_left, seval, o2.row.l1]
    | (with_reducible (first | apply cd_split | apply gd_split)) <;> (intro hc; (try simp only [hcn] at hc); (try simp only [hc]); (try simp only [hcl] at hc); try omega))
  refine MU.mk m2 (by simp) fun h3 m3 s3 => ?_
  have o3 := o2.stay s3 (fun e => his e.symm)
  have bf3 := bf2.stay s3 (fun i hi e => hli (by rw [← e]; exact hi))
  have q3 := FileM.stay q2 s3 fun p hp => by rw [fOf_file hp]; exact hqi
  repeat' (first
    | refine St.h ?_
    | simp (disch := first | omega | (simp only [lnv]; omega)) only [wlk, mwk, ↓get_put', ↓reduceIte, Nat.min_eq_left, seval, o3.row.l1]
    | (with_reducible (first | apply cd_split | apply gd_split)) <;> (intro hc; (try simp only [hcn] at hc); (try simp only [hc]); (try simp only [hcl] at hc); try omega))
  refine AL.own (by simp) (s3.fl (s2.fl (sz.fl (sa.fl hf)))) fun h4 s4 n4 o4 => ?_
  repeat' (first
    | refine St.h ?_
    | simp (disch := first | omega | (simp only [lnv]; omega)) only [wlk, mwk, ↓get_put', ↓reduceIte, Nat.min_eq_left, seval, o3.row.l1]
    | (with_reducible (first | apply cd_split | apply gd_split)) <;> (intro hc; (try simp only [hcn] at hc); (try simp only [hc]); (try simp only [hcl] at hc); try omega))
  refine AP.buf (vs := actV 1 k [] 0 .l0 false) (cnt := 1) (bf3.grow s4) (new_row o4.row rfl (Nat.le_refl _) (by omega) (by show 6 ≤ 6; omega)) (s4.fl (s3.fl (s2.fl (sz.fl (sa.fl hf))))) (by omega) rfl (act_one (.inl rfl)) (by simp [actV]; omega) fun lo' h5 b5 s5 hv5 tp => ?_
  have o5 := (o3.stay s4 (fun h => h)).stay s5 hls
  repeat' (first
    | refine St.h ?_
    | simp (disch := first | omega | (simp only [lnv]; omega)) only [wlk, mwk, ↓get_put', ↓reduceIte, Nat.min_eq_left, seval, o5.row.l1]
    | (with_reducible (first | apply cd_split | apply gd_split)) <;> (intro hc; (try simp only [hcn] at hc); (try simp only [hc]); (try simp only [hcl] at hc); try omega))
  refine ST.own o5 (buf_cells b5).1 (buf_cells b5).2 (by omega) (by omega) fun h6 o6 s6 => ?_
  repeat' (first
    | refine St.h ?_
    | simp (disch := first | omega | (simp only [lnv]; omega)) only [wlk, mwk, ↓get_put', ↓reduceIte, Nat.min_eq_left, seval]
    | (with_reducible (first | apply cd_split | apply gd_split)) <;> (intro hc; (try simp only [hcn] at hc); (try simp only [hc]); (try simp only [hcl] at hc); try omega))
  subst hQ
  have n3 := s3.next
  have hlq : ¬ isOf lo hz.next := fun e => absurd (bfz.own e).2 (Nat.lt_irrefl _)
  have hl' : ∀ i, isOf lo' i → (isOf lo i ∨ B.val h.next ≤ B.val i) ∧ i ≠ hz.next ∧ i ≠ h.next := fun i hi => by
    rcases hv5 i hi with e | e
    · exact ⟨.inl e, fun e2 => hlq (by rw [← e2]; exact e), fun e2 => hli (by rw [← e2]; exact e)⟩
    · exact ⟨.inr (by omega), fun e2 => by rw [e2] at e; omega, fun e2 => by rw [e2] at e; omega⟩
  have hl5 : ¬ isOf lo' s := fun e => (hv5 _ e).elim hls fun e => by omega
  refine ⟨rfl, lo', hz.next, h.next, by omega, Nat.le_refl _, hqi, o6, ((m3.stay s4 (fun h => h)).stay s5 hli).stay s6 his, FileM.stay (FileM.stay (FileM.stay q3 s4 (fun _ _ h => h)) s5 (fun p hp => by rw [fOf_file hp]; exact hlq)) s6 (fun p hp => by rw [fOf_file hp]; exact hqs), b5.stay s6 (fun i hi e => hl5 (by rw [← e]; exact hi)), ?_, hl'⟩
  have t3 : Stay (fun i => i = s ∨ isOf lo i ∨ i = h.next) h h6 := ((((((sa.mono fun _ _ e => e.elim).trans (sz.mono fun _ _ e => .inl e)).trans (s2.mono fun _ _ e => e.elim)).trans (s3.mono fun _ _ e => .inr (.inr e))).trans (s4.mono fun _ _ e => e.elim)).trans (s5.mono fun _ _ e => .inr (.inl e))).trans (s6.mono fun _ _ e => .inl e)
  exact t3.mono fun i hi e => by
    rcases e with e | e | e
    · exact .inl e
    · exact .inr e
    · rw [e] at hi; exact absurd hi (Nat.lt_irrefl _)
end
end Go.Proofs.Ytjlhfoadabkahaa

set_option maxRecDepth 100000
set_option maxHeartbeats 8000000
set_option linter.all false
namespace Go.Proofs.Ytjlhfoadabkahaa
open Go Go.Ev
section
variable {h : H}
/-- what Swap tells -/
def swapErr (E : En) (old name : List UInt8) : Int := if nameP name = false then 10 else if (getE E old).isSome then 0 else 14
theorem swap_err {s : B} {f : Nat} {rm fl lo : V} {E : En} {old name : List UInt8} (r : Row h s 0 0 [rm, fl, lo]) (hf : 3 ≤ f) (m : MpB h fl E) (hk : name.length ≤ 9223372036854775807) (he : swapErr E old name ≠ 0) :
    FnOk Try.prog 20 [.p s 0 0 f, sv old, sv name] h fun y h' => y = .i .i64 (swapErr E old name) ∧ h' = h := by
  refine fn_go c20 (by intro hb; cases hb) (by simp) (by simp) fun Q hQ => ?_
  simp only [slotsF, Nat.reduceAdd]
  repeat' (first
    | refine St.h ?_
    | simp (disch := first | omega | (simp only [lnv]; omega)) only [wlk, mwk, ↓get_put', ↓reduceIte, Nat.min_eq_left, seval]
    | (with_reducible (first | apply cd_split | apply gd_split)) <;> (intro hc; (try simp only [hcn] at hc); (try simp only [hc]); (try simp only [hcl] at hc); try omega))
  refine CL.pure (isName_ok hk) ?_
  cases hn : nameP name with
  | false =>
    repeat' (first
      | refine St.h ?_
      | simp (disch := first | omega | (simp only [lnv]; omega)) only [wlk, mwk, ↓get_put', ↓reduceIte, Nat.min_eq_left, seval]
      | (with_reducible (first | apply cd_split | apply gd_split)) <;> (intro hc; (try simp only [hcn] at hc); (try simp only [hc]); (try simp only [hcl] at hc); try omega))
    subst hQ
    exact ⟨by unfold swapErr; rw [if_pos hn], rfl⟩
  | true =>
  cases hg : getE E old with
  | some v => exact absurd (by unfold swapErr; rw [if_neg (by rw [hn]; decide), hg]; rfl) he
  | none =>
    repeat' (first
      | refine St.h ?_
      | simp (disch := first | omega | (simp only [lnv]; omega)) only [wlk, mwk, ↓get_put', ↓reduceIte, Nat.min_eq_left, seval, r.l1, m.lk, hg]
      | (with_reducible (first | apply cd_split | apply gd_split)) <;> (intro hc; (try simp only [hcn] at hc); (try simp only [hc]); (try simp only [hcl] at hc); try omega))
    subst hQ
    exact ⟨by unfold swapErr; rw [if_neg (by rw [hn]; decide), hg]; rfl, rfl⟩
end
end Go.Proofs.Ytjlhfoadabkahaa

set_option maxRecDepth 100000
set_option maxHeartbeats 8000000
set_option linter.all false
namespace Go.Proofs.Ytjlhfoadabkahaa
open Go Go.Ev
section
variable {h : H}
/-- what Add tells -/
def addErr (rm : Int) (E : En) (k b : List UInt8) : Int := if (getE E k).isSome = false then 14 else if max (rm - (usedE E : Int)) 0 < (b.length : Int) then 15 else 0
theorem add_err {s : B} {f : Nat} {rm : Int} {fl lo : V} {E : En} {k b : List UInt8} (r : Row h s 0 0 [.i .i64 rm, fl, lo]) (hf : 3 ≤ f) (m : MpB h fl E) (hE : ∀ p ∈ E, IsSl p.2) (hl : usedE E ≤ 9223372036854775807) (h0 : 0 ≤ rm) (h1 : rm ≤ 1000000) (hb : b.length ≤ 9223372036854775807)
    (he : addErr rm E k b ≠ 0) : FnOk Try.prog 18 [.p s 0 0 f, sv k, sv b] h fun y h' => y = .i .i64 (addErr rm E k b) ∧ h' = h := by
  refine fn_go c18 (by intro hb; cases hb) (by simp) (by simp) fun Q hQ => ?_
  simp only [slotsF, Nat.reduceAdd]
  cases hg : getE E k with
  | none =>
    repeat' (first
      | refine St.h ?_
      | simp (disch := first | omega | (simp only [lnv]; omega)) only [wlk, mwk, ↓get_put', ↓reduceIte, Nat.min_eq_left, seval, r.l1, m.lk, hg]
      | (with_reducible (first | apply cd_split | apply gd_split)) <;> (intro hc; (try simp only [hcn] at hc); (try simp only [hc]); (try simp only [hcl] at hc); try omega))
    subst hQ
    exact ⟨by unfold addErr; rw [hg]; rfl, rfl⟩
  | some v =>
    repeat' (first
      | refine St.h ?_
      | simp (disch := first | omega | (simp only [lnv]; omega)) only [wlk, mwk, ↓get_put', ↓reduceIte, Nat.min_eq_left, seval, r.l1, m.lk, hg]
      | (with_reducible (first | apply cd_split | apply gd_split)) <;> (intro hc; (try simp only [hcn] at hc); (try simp only [hc]); (try simp only [hcl] at hc); try omega))
    refine CL.pure (left_ok r hf m hE hl h0 h1) ?_
    by_cases hlt : max (rm - (usedE E : Int)) 0 < (b.length : Int)
    · repeat' (first
        | with_reducible refine dwStop ?_
        | refine St.h ?_
        | simp (disch := first | omega | (simp only [lnv]; omega)) only [wlk, mwk, ↓get_put', ↓reduceIte, Nat.min_eq_left, seval, r.l1, hlt]
        | (with_reducible (first | apply cd_split | apply gd_split)) <;> (intro hc; (try simp only [hcn] at hc); (try simp only [hc]); (try simp only [hcl] at hc); try omega))
      subst hQ
      exact ⟨by unfold addErr; rw [hg, if_neg (by simp), if_pos hlt], rfl⟩
    · exact absurd (by unfold addErr; rw [hg, if_neg (by simp), if_neg hlt]) he
theorem add_pre {h2 : H} {T : F} {s id : B} {rm : Int} {lo v : V} {k b : List UInt8} (o : Ev.Own h s [.i .i64 rm, .m id, lo]) (o2 : Ev.Own h2 s [.i .i64 rm, .m id, lo]) (e0 : get 0 T = .p s 0 0 3) (e1 : get 1 T = sv k) (e2 : get 2 T = sv b) (e7 : get 7 T = v) :
    Ops2 Try.prog [uB 25 (doMove (tm 0)), uB 26 (doNilCheck (tm 25)), uB 27 (doFieldAddr 1 (tm 26)), uB 28 (doLoad (tm 27)), uB 29 (doMove (tm 1)), uB 30 (doMove (tm 7)), uB 31 (doMove (tm 2))] T h h2
      (put 31 (sv b) (put 30 v (put 29 (sv k) (put 28 (.m id) (put 27 (.p s 0 1 3) (put 26 (.p s 0 0 3) (put 25 (.p s 0 0 3) T))))))) := by
  refine ops2_u 25 _ (.p s 0 0 3) (rv_of (by simp (disch := first | omega | (simp only [lnv]; omega)) only [wlk, mwk, ↓get_put', ↓reduceIte, Nat.min_eq_left, seval, e0])) (rv_of (by simp (disch := first | omega | (simp only [lnv]; omega)) only [wlk, mwk, ↓get_put', ↓reduceIte, Nat.min_eq_left, seval, e0])) ?_
  refine ops2_u 26 _ (.p s 0 0 3) (rv_of (by simp (disch := first | omega | (simp only [lnv]; omega)) only [wlk, mwk, ↓get_put', ↓reduceIte, Nat.min_eq_left, seval, e0])) (rv_of (by simp (disch := first | omega | (simp only [lnv]; omega)) only [wlk, mwk, ↓get_put', ↓reduceIte, Nat.min_eq_left, seval, e0])) ?_
  refine ops2_u 27 _ (.p s 0 1 3) (rv_of (by simp (disch := first | omega | (simp only [lnv]; omega)) only [wlk, mwk, ↓get_put', ↓reduceIte, Nat.min_eq_left, seval, e0])) (rv_of (by simp (disch := first | omega | (simp only [lnv]; omega)) only [wlk, mwk, ↓get_put', ↓reduceIte, Nat.min_eq_left, seval, e0])) ?_
  refine ops2_u 28 _ (.m id) (rv_of (by simp (disch := first | omega | (simp only [lnv]; omega)) only [wlk, mwk, ↓get_put', ↓reduceIte, Nat.min_eq_left, seval, e0, o.row.l1])) (rv_of (by simp (disch := first | omega | (simp only [lnv]; omega)) only [wlk, mwk, ↓get_put', ↓reduceIte, Nat.min_eq_left, seval, e0, o2.row.l1])) ?_
  refine ops2_u 29 _ (sv k) (rv_of (by simp (disch := first | omega | (simp only [lnv]; omega)) only [wlk, mwk, ↓get_put', ↓reduceIte, Nat.min_eq_left, seval, e1])) (rv_of (by simp (disch := first | omega | (simp only [lnv]; omega)) only [wlk, mwk, ↓get_put', ↓reduceIte, Nat.min_eq_left, seval, e1])) ?_
  refine ops2_u 30 _ (v) (rv_of (by simp (disch := first | omega | (simp only [lnv]; omega)) only [wlk, mwk, ↓get_put', ↓reduceIte, Nat.min_eq_left, seval, e7])) (rv_of (by simp (disch := first | omega | (simp only [lnv]; omega)) only [wlk, mwk, ↓get_put', ↓reduceIte, Nat.min_eq_left, seval, e7])) ?_
  refine ops2_u 31 _ (sv b) (rv_of (by simp (disch := first | omega | (simp only [lnv]; omega)) only [wlk, mwk, ↓get_put', ↓reduceIte, Nat.min_eq_left, seval, e2])) (rv_of (by simp (disch := first | omega | (simp only [lnv]; omega)) only [wlk, mwk, ↓get_put', ↓reduceIte, Nat.min_eq_left, seval, e2])) ?_
  exact ops2_n
theorem add_fr {T : F} {s id : B} {v v' : V} {k b : List UInt8} (e0 : get 0 T = .p s 0 0 3) (e1 : get 1 T = sv k) (e7 : get 7 T = v) : ∃ U, put 32 v' (put 31 (sv b) (put 30 v (put 29 (sv k) (put 28 (.m id) (put 27 (.p s 0 1 3) (put 26 (.p s 0 0 3) (put 25 (.p s 0 0 3) T))))))) = U ∧ get 0 U = .p s 0 0 3 ∧ get 1 U = sv k ∧ get 7 U = v ∧ get 28 U = .m id ∧ get 29 U = sv k ∧ get 32 U = v' ∧ oV (tm 30) (put 31 (sv b) (put 30 v (put 29 (sv k) (put 28 (.m id) (put 27 (.p s 0 1 3) (put 26 (.p s 0 0 3) (put 25 (.p s 0 0 3) T))))))) = v ∧ oV (tm 31) (put 31 (sv b) (put 30 v (put 29 (sv k) (put 28 (.m id) (put 27 (.p s 0 1 3) (put 26 (.p s 0 0 3) (put 25 (.p s 0 0 3) T))))))) = sv b := by
  refine ⟨_, rfl, ?_, ?_, ?_, ?_, ?_, ?_, ?_, ?_⟩
  all_goals simp (disch := first | omega | (simp only [lnv]; omega)) only [wlk, mwk, ↓get_put', ↓reduceIte, Nat.min_eq_left, seval, e0, e1, e7]
theorem add_ok {s id : B} {rm : Int} {lo v : V} {E : En} {acts : List V} {k b bs : List UInt8} (o : Ev.Own h s [.i .i64 rm, .m id, lo]) (m : MapC h id E) (bf : Buf h 84 6 lo acts) (hsi : s ≠ id) (hls : ¬ isOf lo s) (hli : ¬ isOf lo id) (hf : B.val h.floor ≤ B.val h.next)
    (hg : getE E k = some v) (fv : FileM h v bs) (hvs : ¬ fOf v s) (hvi : ¬ fOf v id) (hvl : ∀ q, fOf v q → ¬ isOf lo q)
    (hlE : E.length ≤ 1048576) (hla : acts.length + 6 ≤ 1048576) (hE : ∀ p ∈ E, IsSl p.2) (hl : usedE E ≤ 9223372036854775807) (h0 : 0 ≤ rm) (h1 : rm ≤ 1000000) (hb : b.length ≤ 9223372036854775807) (hbb : bs.length + b.length ≤ 1048576)
    (he : addErr rm E k b = 0) : FnOk Try.prog 18 [.p s 0 0 3, sv k, sv b] h fun y h' => y = .i .i64 0 ∧ ∃ lo' v', Ev.Own h' s [.i .i64 rm, .m id, lo'] ∧ MapC h' id (setE E k v') ∧ FileM h' v' (bs ++ b) ∧
      Buf h' 84 6 lo' (acts ++ actV 2 k [] (bs.length : Int) .l0 false) ∧ Stay (fun i => i = s ∨ i = id ∨ isOf lo i ∨ fOf v i) h h' ∧ (∀ i, isOf lo' i → isOf lo i ∨ B.val h.next ≤ B.val i) ∧ (∀ q, fOf v' q → fOf v q ∨ B.val h.next ≤ B.val q) ∧ (∀ q, fOf v' q → q ≠ s ∧ q ≠ id ∧ ¬ isOf lo' q) := by
  have hlt : ¬ max (rm - (usedE E : Int)) 0 < (b.length : Int) := fun e => by unfold addErr at he; rw [hg, if_neg (by simp), if_pos e] at he; cases he
  have hslt : B.val s < B.val h.next := by obtain ⟨_, _, _, _, _, _, h6, _⟩ := o; exact h6
  refine fn_go c18 (by intro hb; cases hb) (by simp) (by simp) fun Q hQ => ?_
  simp only [slotsF, Nat.reduceAdd]
  repeat' (first
    | refine St.h ?_
    | simp (disch := first | omega | (simp only [lnv]; omega)) only [wlk, mwk, ↓get_put', ↓reduceIte, Nat.min_eq_left, seval, o.row.l1, m.lk, hg]
    | (with_reducible (first | apply cd_split | apply gd_split)) <;> (intro hc; (try simp only [hcn] at hc); (try simp only [hc]); (try simp only [hcl] at hc); try omega))
  refine CL.pure (left_ok o.row (by omega) (.inr ⟨id, rfl, m.b⟩) hE hl h0 h1) ?_
  repeat' (first
    | with_reducible refine dwStop ?_
    | refine St.h ?_
    | simp (disch := first | omega | (simp only [lnv]; omega)) only [wlk, mwk, ↓get_put', ↓reduceIte, Nat.min_eq_left, seval, o.row.l1]
    | (with_reducible (first | apply cd_split | apply gd_split)) <;> (intro hc; (try simp only [hcn] at hc); (try simp only [hc]); (try simp only [hcl] at hc); try omega))
  refine dw_gen fun T hT => ?_
  have e0 : get 0 T = .p s 0 0 3 := by rw [hT]; simp (disch := first | omega | (simp only [lnv]; omega)) only [wlk, mwk, ↓get_put', ↓reduceIte, Nat.min_eq_left, seval]
  have e1 : get 1 T = sv k := by rw [hT]; simp (disch := first | omega | (simp only [lnv]; omega)) only [wlk, mwk, ↓get_put', ↓reduceIte, Nat.min_eq_left, seval]
  have e2 : get 2 T = sv b := by rw [hT]; simp (disch := first | omega | (simp only [lnv]; omega)) only [wlk, mwk, ↓get_put', ↓reduceIte, Nat.min_eq_left, seval]
  have e7 : get 7 T = v := by rw [hT]; simp (disch := first | omega | (simp only [lnv]; omega)) only [wlk, mwk, ↓get_put', ↓reduceIte, Nat.min_eq_left, seval]
  clear hT
  obtain ⟨v', h2, p1, f2, p3, p4⟩ := fv.app2 hf hbb
  have o2 := o.stay p3 hvs
  have m2 := m.stay p3 hvi
  have bf2 := bf.stay p3 fun i hi e => hvl i e hi
  have hp1 := add_pre (h2 := h2) o o2 e0 e1 e2 e7
  obtain ⟨U, hU, u0, u1, u7, u28, u29, u32, u30, u31⟩ := add_fr (v' := v') (id := id) (b := b) e0 e1 e7
  have hp2 := opRel_u (P := Try.prog) (t := put 31 (sv b) (put 30 v (put 29 (sv k) (put 28 (.m id) (put 27 (.p s 0 1 3) (put 26 (.p s 0 0 3) (put 25 (.p s 0 0 3) T))))))) 32 _ (run_appS (el := 5) (s := tm 30) (x := tm 31) (u := v) (c := b) u30 u31 p1)
  rw [hU] at hp2
  clear hU
  obtain ⟨_, h3, rr, m3, s3⟩ := or_run (P := Try.prog) (r := doMapSet none (tm 28) (tm 29) (tm 32)) (h := h2) (t := U) (K := fun _ h' => MapC h' id (setE E k v') ∧ Stay (fun i => i = id) h2 h') (by
      simp (disch := first | omega | (simp only [lnv]; omega)) only [wlk, mwk, ↓get_put', ↓reduceIte, Nat.min_eq_left, seval, u28, u29, u32]
      refine MU.mk m2 hlE fun h' m' s' => ?_
      simp (disch := first | omega | (simp only [lnv]; omega)) only [wlk, mwk, ↓get_put', ↓reduceIte, Nat.min_eq_left, seval]
      exact ⟨m', s'⟩)
  refine DW.two hmix rfl hp1 hp2 (opRel_0 rr) ?_
  have hi2 : B.val id < B.val h2.next := m2.lt
  have o3 := o2.stay s3 hsi
  have bf3 := bf2.stay s3 fun i hi e => hli (by rw [← e]; exact hi)
  have hvi' : ∀ q, fOf v' q → q ≠ s ∧ q ≠ id ∧ ¬ isOf lo q := fun q hq => by
    rcases p4 q hq with e | e
    · exact ⟨fun e2 => hvs (by rw [← e2]; exact e), fun e2 => hvi (by rw [← e2]; exact e), hvl q e⟩
    · have := m.lt
      exact ⟨fun e2 => by rw [e2] at e; omega, fun e2 => by rw [e2] at e; omega, fun e2 => by have := (bf.own e2).2; omega⟩
  have f3 := f2.stay s3 fun q hq e => (hvi' q hq).2.1 e
  have hf3 := s3.fl (p3.fl hf)
  repeat' (first
    | refine St.h ?_
    | simp (disch := first | omega | (simp only [lnv]; omega)) only [wlk, mwk, ↓get_put', ↓reduceIte, Nat.min_eq_left, seval, u0, u1, u7, o3.row.l1, fv.ln]
    | (with_reducible (first | apply cd_split | apply gd_split)) <;> (intro hc; (try simp only [hcn] at hc); (try simp only [hc]); (try simp only [hcl] at hc); try omega))
  refine AL.own (by simp) hf3 fun h4 s4 n4 o4 => ?_
  repeat' (first
    | refine St.h ?_
    | simp (disch := first | omega | (simp only [lnv]; omega)) only [wlk, mwk, ↓get_put', ↓reduceIte, Nat.min_eq_left, seval, u0, u1, u7, o3.row.l1]
    | (with_reducible (first | apply cd_split | apply gd_split)) <;> (intro hc; (try simp only [hcn] at hc); (try simp only [hc]); (try simp only [hcl] at hc); try omega))
  refine AP.buf (vs := actV 2 k [] (bs.length : Int) .l0 false) (cnt := 1) (bf3.grow s4) (new_row o4.row rfl (Nat.le_refl _) (by omega) (by show 6 ≤ 6; omega)) (s4.fl hf3) (by omega) rfl (act_one (.inl rfl)) (by simp [actV]; omega) fun lo' h5 b5 s5 hv5 tp => ?_
  have o5 := (o3.stay s4 (fun h => h)).stay s5 hls
  repeat' (first
    | refine St.h ?_
    | simp (disch := first | omega | (simp only [lnv]; omega)) only [wlk, mwk, ↓get_put', ↓reduceIte, Nat.min_eq_left, seval, u0, o5.row.l1]
    | (with_reducible (first | apply cd_split | apply gd_split)) <;> (intro hc; (try simp only [hcn] at hc); (try simp only [hc]); (try simp only [hcl] at hc); try omega))
  refine ST.own o5 (buf_cells b5).1 (buf_cells b5).2 (by omega) (by omega) fun h6 o6 s6 => ?_
  repeat' (first
    | refine St.h ?_
    | simp (disch := first | omega | (simp only [lnv]; omega)) only [wlk, mwk, ↓get_put', ↓reduceIte, Nat.min_eq_left, seval]
    | (with_reducible (first | apply cd_split | apply gd_split)) <;> (intro hc; (try simp only [hcn] at hc); (try simp only [hc]); (try simp only [hcl] at hc); try omega))
  subst hQ
  have n3 := s3.next
  have np := p3.next
  have hl' : ∀ i, isOf lo' i → isOf lo i ∨ B.val h.next ≤ B.val i := fun i hi => (hv5 i hi).imp (fun h => h) fun e => by omega
  have hl5 : ¬ isOf lo' s := fun e => (hl' _ e).elim hls fun e => by omega
  have hfin : ∀ q, fOf v' q → q ≠ s ∧ q ≠ id ∧ ¬ isOf lo' q := fun q hq => by
    obtain ⟨c1, c2, c3⟩ := hvi' q hq
    refine ⟨c1, c2, fun e => ?_⟩
    rcases hv5 q e with e | e
    · exact c3 e
    · have := (f2.own hq).2; omega
  refine ⟨rfl, lo', v', o6, ((m3.stay s4 (fun h => h)).stay s5 hli).stay s6 (fun e => hsi e.symm), ((f3.stay s4 (fun _ _ h => h)).stay s5 (fun q hq => (hvi' q hq).2.2)).stay s6 (fun q hq => (hvi' q hq).1), b5.stay s6 (fun i hi e => hl5 (by rw [← e]; exact hi)), ?_, hl', p4, hfin⟩
  exact ((((p3.mono fun _ _ e => .inr (.inr (.inr e))).trans (s3.mono fun _ _ e => .inr (.inl e))).trans (s4.mono fun _ _ e => e.elim)).trans (s5.mono fun _ _ e => .inr (.inr (.inl e)))).trans (s6.mono fun _ _ e => .inl e)
end
end Go.Proofs.Ytjlhfoadabkahaa

set_option maxRecDepth 100000
set_option maxHeartbeats 8000000
set_option linter.all false
namespace Go.Proofs.Ytjlhfoadabkahaa
open Go Go.Ev
section
variable {h : H}
theorem swap_same {s id : B} {rm : Int} {lo v : V} {E : En} {acts : List V} {k : List UInt8} (o : Ev.Own h s [.i .i64 rm, .m id, lo]) (m : MapC h id E) (bf : Buf h 84 6 lo acts) (hsi : s ≠ id) (hls : ¬ isOf lo s) (hli : ¬ isOf lo id) (hf : B.val h.floor ≤ B.val h.next)
    (hla : acts.length + 6 ≤ 1048576) (hk : k.length ≤ 9223372036854775807) (hn : nameP k = true) (hg : getE E k = some v) : FnOk Try.prog 20 [.p s 0 0 3, sv k, sv k] h fun y h' => y = .i .i64 0 ∧ ∃ lo', Ev.Own h' s [.i .i64 rm, .m id, lo'] ∧ MapC h' id E ∧
      Buf h' 84 6 lo' (acts ++ actV 3 k k 0 .l0 false) ∧ Stay (fun i => i = s ∨ isOf lo i) h h' ∧ (∀ i, isOf lo' i → isOf lo i ∨ B.val h.next ≤ B.val i) := by
  refine fn_go c20 (by intro hb; cases hb) (by simp) (by simp) fun Q hQ => ?_
  simp only [slotsF, Nat.reduceAdd]
  repeat' (first
    | refine St.h ?_
    | simp (disch := first | omega | (simp only [lnv]; omega)) only [wlk, mwk, ↓get_put', ↓reduceIte, Nat.min_eq_left, seval]
    | (with_reducible (first | apply cd_split | apply gd_split)) <;> (intro hc; (try simp only [hcn] at hc); (try simp only [hc]); (try simp only [hcl] at hc); try omega))
  refine CL.pure (isName_ok hk) ?_
  repeat' (first
    | refine St.h ?_
    | simp (disch := first | omega | (simp only [lnv]; omega)) only [wlk, mwk, ↓get_put', ↓reduceIte, Nat.min_eq_left, seval, hn, o.row.l1, m.lk, hg]
    | (with_reducible (first | apply cd_split | apply gd_split)) <;> (intro hc; (try simp only [hcn] at hc); (try simp only [hc]); (try simp only [hcl] at hc); try omega))
  refine AL.own (by simp) hf fun h1 s1 n1 o1 => ?_
  have oa := o.stay s1 (fun h => h)
  repeat' (first
    | refine St.h ?_
    | simp (disch := first | omega | (simp only [lnv]; omega)) only [wlk, mwk, ↓get_put', ↓reduceIte, Nat.min_eq_left, seval]
    | (with_reducible (first | apply cd_split | apply gd_split)) <;> (intro hc; (try simp only [hcn] at hc); (try simp only [hc]); (try simp only [hcl] at hc); try omega))
  refine ST.ownAll (vs := [.i .i64 3, sv k, sv k, .i .i64 0, .l0, .b false]) o1 rfl rfl rfl (by simp) (by simp) fun h2 o2 s2 => ?_
  have n2 := s2.next
  have hs1 : B.val s < B.val h.next := by obtain ⟨_, _, _, _, _, _, h6, _⟩ := o; exact h6
  have ob := oa.stay s2 (fun e => by rw [e] at hs1; omega)
  have bf1 := bf.grow s1
  have bf2 := bf1.stay s2 (fun i hi e => by have := (bf.own hi).2; rw [e] at this; omega)
  have hf2 := s2.fl (s1.fl hf)
  repeat' (first
    | refine St.h ?_
    | simp (disch := first | omega | (simp only [lnv]; omega)) only [wlk, mwk, ↓get_put', ↓reduceIte, Nat.min_eq_left, seval, ob.row.l1, o2.row.ln]
    | (with_reducible (first | apply cd_split | apply gd_split)) <;> (intro hc; (try simp only [hcn] at hc); (try simp only [hc]); (try simp only [hcl] at hc); try omega))
  refine AL.ownU (by simp) hf2 fun h3 s3 o3 => ?_
  have oc := ob.stay s3 (fun h => h)
  have hf3 := s3.fl hf2
  repeat' (first
    | refine St.h ?_
    | simp (disch := first | omega | (simp only [lnv]; omega)) only [wlk, mwk, ↓get_put', ↓reduceIte, Nat.min_eq_left, seval, oc.row.l1]
    | (with_reducible (first | apply cd_split | apply gd_split)) <;> (intro hc; (try simp only [hcn] at hc); (try simp only [hc]); (try simp only [hcl] at hc); try omega))
  refine AP.buf (vs := actV 3 k k 0 .l0 false) (cnt := 1) (bf2.grow s3) (new_row o3.row rfl (Nat.le_refl _) (by omega) (by show 6 ≤ 6; omega)) hf3 (by omega) rfl (act_one (.inl rfl)) (by simp [actV]; omega) fun lo' h5 b5 s5 hv5 tp => ?_
  have od := oc.stay s5 hls
  repeat' (first
    | refine St.h ?_
    | simp (disch := first | omega | (simp only [lnv]; omega)) only [wlk, mwk, ↓get_put', ↓reduceIte, Nat.min_eq_left, seval, od.row.l1]
    | (with_reducible (first | apply cd_split | apply gd_split)) <;> (intro hc; (try simp only [hcn] at hc); (try simp only [hc]); (try simp only [hcl] at hc); try omega))
  refine ST.own od (buf_cells b5).1 (buf_cells b5).2 (by omega) (by omega) fun h6 o6 s6 => ?_
  repeat' (first
    | refine St.h ?_
    | simp (disch := first | omega | (simp only [lnv]; omega)) only [wlk, mwk, ↓get_put', ↓reduceIte, Nat.min_eq_left, seval]
    | (with_reducible (first | apply cd_split | apply gd_split)) <;> (intro hc; (try simp only [hcn] at hc); (try simp only [hc]); (try simp only [hcl] at hc); try omega))
  subst hQ
  have n3 := s3.next
  have n1' := s1.next
  have hl' : ∀ i, isOf lo' i → isOf lo i ∨ B.val h.next ≤ B.val i := fun i hi => (hv5 i hi).imp (fun h => h) fun e => by omega
  have hl5 : ¬ isOf lo' s := fun e => (hl' _ e).elim hls fun e => by omega
  have mi := m.lt
  refine ⟨rfl, lo', o6, ((((m.stay s1 (fun h => h)).stay s2 (fun e => by rw [e] at mi; omega)).stay s3 (fun h => h)).stay s5 hli).stay s6 (fun e => hsi e.symm), b5.stay s6 (fun i hi e => hl5 (by rw [← e]; exact hi)), ?_, hl'⟩
  have t2 : Stay nowhere h h2 := s1.past' s2 fun i hi => by rw [hi]; exact Nat.le_refl _
  exact (((t2.trans s3).mono fun _ _ e => e.elim).trans (s5.mono fun _ _ e => .inr e)).trans (s6.mono fun _ _ e => .inl e)
/-- .. to another name; g: the file that had it -/
theorem swap_ok {s id : B} {rm : Int} {lo v : V} {E : En} {acts : List V} {k n : List UInt8} (o : Ev.Own h s [.i .i64 rm, .m id, lo]) (m : MapC h id E) (bf : Buf h 84 6 lo acts) (hsi : s ≠ id) (hls : ¬ isOf lo s) (hli : ¬ isOf lo id) (hf : B.val h.floor ≤ B.val h.next)
    (hla : acts.length + 6 ≤ 1048576) (hlE : E.length ≤ 1048576) (hk : n.length ≤ 9223372036854775807) (hn : nameP n = true) (hkn : k ≠ n) (hg : getE E k = some v) (hgs : IsSl ((getE E n).getD .l0)) : FnOk Try.prog 20 [.p s 0 0 3, sv k, sv n] h fun y h' => y = .i .i64 0 ∧ ∃ lo', Ev.Own h' s [.i .i64 rm, .m id, lo'] ∧ MapC h' id (setE (delE E k) n v) ∧
      Buf h' 84 6 lo' (acts ++ actV 3 n k 0 ((getE E n).getD .l0) (getE E n).isSome) ∧ Stay (fun i => i = s ∨ i = id ∨ isOf lo i) h h' ∧ (∀ i, isOf lo' i → isOf lo i ∨ B.val h.next ≤ B.val i) := by
  refine fn_go c20 (by intro hb; cases hb) (by simp) (by simp) fun Q hQ => ?_
  simp only [slotsF, Nat.reduceAdd]
  repeat' (first
    | refine St.h ?_
    | simp (disch := first | omega | (simp only [lnv]; omega)) only [wlk, mwk, ↓get_put', ↓reduceIte, Nat.min_eq_left, seval]
    | (with_reducible (first | apply cd_split | apply gd_split)) <;> (intro hc; (try simp only [hcn] at hc); (try simp only [hc]); (try simp only [hcl] at hc); try omega))
  refine CL.pure (isName_ok hk) ?_
  repeat' (first
    | refine St.h ?_
    | simp (disch := first | omega | (simp only [lnv]; omega)) only [wlk, mwk, ↓get_put', ↓reduceIte, Nat.min_eq_left, seval, hn, o.row.l1, m.lk, hg]
    | (with_reducible (first | apply cd_split | apply gd_split)) <;> (intro hc; (try simp only [hcn] at hc); (try simp only [hc]); (try simp only [hcl] at hc); try omega))
  refine AL.own (by simp) hf fun h1 s1 n1 o1 => ?_
  have oa := o.stay s1 (fun h => h)
  have ma := m.stay s1 (fun h => h)
  repeat' (first
    | refine St.h ?_
    | simp (disch := first | omega | (simp only [lnv]; omega)) only [wlk, mwk, ↓get_put', ↓reduceIte, Nat.min_eq_left, seval]
    | (with_reducible (first | apply cd_split | apply gd_split)) <;> (intro hc; (try simp only [hcn] at hc); (try simp only [hc]); (try simp only [hcl] at hc); try omega))
  refine ST.ownAll (vs := [.i .i64 3, sv n, sv k, .i .i64 0, .l0, .b false]) o1 rfl rfl rfl (by simp) (by simp) fun h2 o2 s2 => ?_
  have n2 := s2.next
  have hs1 : B.val s < B.val h.next := by obtain ⟨_, _, _, _, _, _, h6, _⟩ := o; exact h6
  have mi := m.lt
  have ob := oa.stay s2 (fun e => by rw [e] at hs1; omega)
  have mb := ma.stay s2 (fun e => by rw [e] at mi; omega)
  have hnx : ∀ i, B.val i < B.val h.next → i ≠ h.next := fun i hi e => by rw [e] at hi; exact absurd hi (Nat.lt_irrefl _)
  have bf1 := bf.grow s1
  have bf2 := bf1.stay s2 (fun i hi e => by have := (bf.own hi).2; rw [e] at this; omega)
  have hf2 := s2.fl (s1.fl hf)
  have hne : decide (k = n) = false := decide_eq_false hkn
  generalize hG : (getE E n).getD .l0 = G at *
  generalize hB : (getE E n).isSome = bb at *
  repeat' (first
    | refine St.h ?_
    | simp (disch := first | omega | (simp only [lnv]; omega)) only [wlk, mwk, ↓get_put', ↓reduceIte, Nat.min_eq_left, seval, ob.row.l1, o2.row.ln, mb.lk, hne, hG, hB]
    | (with_reducible (first | apply cd_split | apply gd_split)) <;> (intro hc; (try simp only [hcn] at hc); (try simp only [hc]); (try simp only [hcl] at hc); try omega))
  have hG1 : cells G = [G] ∧ oneV G = true := by rcases hgs with rfl | ⟨_, _, _, _, _, _, rfl⟩ <;> exact ⟨rfl, rfl⟩
  have hnn : B.val h.next < B.val h2.next := by omega
  refine ST.own o2 hG1.1 hG1.2 (by omega) (by omega) fun h3 o3 s3 => ?_
  have oc := ob.stay s3 (hnx _ hs1)
  have mc := mb.stay s3 (hnx _ mi)
  repeat' (first
    | refine St.h ?_
    | simp (disch := first | omega | (simp only [lnv]; omega)) only [wlk, mwk, ↓get_put', ↓reduceIte, Nat.min_eq_left, seval, oc.row.l1, o3.row.ln]
    | (with_reducible (first | apply cd_split | apply gd_split)) <;> (intro hc; (try simp only [hcn] at hc); (try simp only [hc]); (try simp only [hcl] at hc); try omega))
  refine ST.own (y := .b bb) o3 rfl rfl (by omega) (by omega) fun h4 o4 s4 => ?_
  have o4 : Ev.Own h4 h.next [.i .i64 3, sv n, sv k, .i .i64 0, G, .b bb] := o4
  have od := oc.stay s4 (hnx _ hs1)
  have md := mc.stay s4 (hnx _ mi)
  have n3 := s3.next
  have n4 := s4.next
  repeat' (first
    | refine St.h ?_
    | simp (disch := first | omega | (simp only [lnv]; omega)) only [wlk, mwk, ↓get_put', ↓reduceIte, Nat.min_eq_left, seval, od.row.l1, o4.row.ln]
    | (with_reducible (first | apply cd_split | apply gd_split)) <;> (intro hc; (try simp only [hcn] at hc); (try simp only [hc]); (try simp only [hcl] at hc); try omega))
  refine MD.mk md hlE fun h5 me s5 => ?_
  have oe := od.stay s5 hsi
  have o5 := o4.stay s5 (fun e => hnx _ mi e.symm)
  have n5 := s5.next
  repeat' (first
    | refine St.h ?_
    | simp (disch := first | omega | (simp only [lnv]; omega)) only [wlk, mwk, ↓get_put', ↓reduceIte, Nat.min_eq_left, seval, oe.row.l1, o5.row.ln]
    | (with_reducible (first | apply cd_split | apply gd_split)) <;> (intro hc; (try simp only [hcn] at hc); (try simp only [hc]); (try simp only [hcl] at hc); try omega))
  have hlE2 : (delE E k).length ≤ 1048576 := by have := (keys_del_sub E k).length_le; rw [keysE_len, keysE_len] at this; omega
  refine MU.mk me hlE2 fun h6 mf s6 => ?_
  have og := oe.stay s6 hsi
  have o6 := o5.stay s6 (fun e => hnx _ mi e.symm)
  have n6 := s6.next
  have bfx := ((((bf2.stay s3 (fun i hi e => by have := (bf.own hi).2; rw [e] at this; omega)).stay s4 (fun i hi e => by have := (bf.own hi).2; rw [e] at this; omega)).stay s5 (fun i hi e => hli (by rw [← e]; exact hi))).stay s6 (fun i hi e => hli (by rw [← e]; exact hi)))
  have hf6 := s6.fl (s5.fl (s4.fl (s3.fl hf2)))
  repeat' (first
    | refine St.h ?_
    | simp (disch := first | omega | (simp only [lnv]; omega)) only [wlk, mwk, ↓get_put', ↓reduceIte, Nat.min_eq_left, seval, og.row.l1, o6.row.ln]
    | (with_reducible (first | apply cd_split | apply gd_split)) <;> (intro hc; (try simp only [hcn] at hc); (try simp only [hc]); (try simp only [hcl] at hc); try omega))
  refine AL.ownU (by simp) hf6 fun h7 s7 o7 => ?_
  have oh := og.stay s7 (fun h => h)
  have hf7 := s7.fl hf6
  have n7 := s7.next
  repeat' (first
    | refine St.h ?_
    | simp (disch := first | omega | (simp only [lnv]; omega)) only [wlk, mwk, ↓get_put', ↓reduceIte, Nat.min_eq_left, seval, oh.row.l1]
    | (with_reducible (first | apply cd_split | apply gd_split)) <;> (intro hc; (try simp only [hcn] at hc); (try simp only [hc]); (try simp only [hcl] at hc); try omega))
  refine AP.buf (vs := actV 3 n k 0 G bb) (cnt := 1) (bfx.grow s7) (new_row o7.row rfl (Nat.le_refl _) (by omega) (by show 6 ≤ 6; omega)) hf7 (by omega) rfl (act_one hgs) (by simp [actV]; omega) fun lo' h8 b8 s8 hv8 tp => ?_
  have oi := oh.stay s8 hls
  repeat' (first
    | refine St.h ?_
    | simp (disch := first | omega | (simp only [lnv]; omega)) only [wlk, mwk, ↓get_put', ↓reduceIte, Nat.min_eq_left, seval, oi.row.l1]
    | (with_reducible (first | apply cd_split | apply gd_split)) <;> (intro hc; (try simp only [hcn] at hc); (try simp only [hc]); (try simp only [hcl] at hc); try omega))
  refine ST.own oi (buf_cells b8).1 (buf_cells b8).2 (by omega) (by omega) fun h9 o9 s9 => ?_
  repeat' (first
    | refine St.h ?_
    | simp (disch := first | omega | (simp only [lnv]; omega)) only [wlk, mwk, ↓get_put', ↓reduceIte, Nat.min_eq_left, seval]
    | (with_reducible (first | apply cd_split | apply gd_split)) <;> (intro hc; (try simp only [hcn] at hc); (try simp only [hc]); (try simp only [hcl] at hc); try omega))
  subst hQ
  have hl' : ∀ i, isOf lo' i → isOf lo i ∨ B.val h.next ≤ B.val i := fun i hi => (hv8 i hi).imp (fun h => h) fun e => by omega
  have hl5 : ¬ isOf lo' s := fun e => (hl' _ e).elim hls fun e => by omega
  refine ⟨rfl, lo', o9, (((mf.stay s7 (fun h => h)).stay s8 hli).stay s9 (fun e => hsi e.symm)), b8.stay s9 (fun i hi e => hl5 (by rw [← e]; exact hi)), ?_, hl'⟩
  have t4 : Stay nowhere h h4 := ((s1.past' s2 fun i hi => by rw [hi]; exact Nat.le_refl _).past' s3 fun i hi => by rw [hi]; exact Nat.le_refl _).past' s4 fun i hi => by rw [hi]; exact Nat.le_refl _
  exact (((((t4.mono fun _ _ e => e.elim).trans (s5.mono fun _ _ e => .inr (.inl e))).trans (s6.mono fun _ _ e => .inr (.inl e))).trans (s7.mono fun _ _ e => e.elim)).trans (s8.mono fun _ _ e => .inr (.inr e))).trans (s9.mono fun _ _ e => .inl e)
end
end Go.Proofs.Ytjlhfoadabkahaa

set_option maxRecDepth 100000
set_option maxHeartbeats 8000000
set_option linter.all false
namespace Go.Proofs.Ytjlhfoadabkahaa
open Go Go.Ev
section
variable {h : H}
/-- how many bytes stay -/
def hlN (n : Int) (m : Nat) : Nat := (max 0 (min n (m : Int))).toNat
theorem heldZ_N (n : Int) (m : Nat) : heldZ n (m : Int) = (hlN n m : Int) := by unfold heldZ hlN; omega
theorem hlN_le (n : Int) (m : Nat) : hlN n m ≤ m := by unfold hlN; omega
theorem tb_put {s id : B} {rm n front : Int} {lo v gone : V} {E : En} {k old bs : List UInt8} {had : Bool} (o : Ev.Own h s [.i .i64 rm, .m id, lo]) (m : MapC h id E) (hsi : s ≠ id) (hf : B.val h.floor ≤ B.val h.next) (hlE : E.length ≤ 1048576) (hl : bs.length ≤ 9223372036854775807)
    (hgo : IsSl gone) (hg : getE E k = some v) (fv : FileM h v bs) : FnOk Try.prog 56 [.p s 0 0 3, .a (actV 1 k old front gone had), .i .i64 n] h fun y h' => y = .tu [] ∧
      MapC h' id (if decide (0 < hlN n bs.length) then setE E k (fCut v (hlN n bs.length)) else delE E k) ∧ Stay (fun i => i = id) h h' := by
  have hz := heldZ_N n bs.length
  have hzl := hlN_le n bs.length
  obtain ⟨c1, c2⟩ := fv.cut (P := Try.prog) hzl
  generalize hlN n bs.length = z at *
  have hs1 : B.val s < B.val h.next := by obtain ⟨_, _, _, _, _, _, h6, _⟩ := o; exact h6
  have mi := m.lt
  unfold actV
  refine fn_go c56 (by intro hb; cases hb) (by simp) (by simp) fun Q hQ => ?_
  simp only [slotsF, Nat.reduceAdd]
  repeat' (first
    | refine St.h ?_
    | simp (disch := first | omega | (simp only [lnv]; omega)) only [wlk, mwk, ↓get_put', ↓reduceIte, Nat.min_eq_left, seval]
    | (with_reducible (first | apply cd_split | apply gd_split)) <;> (intro hc; (try simp only [hcn] at hc); (try simp only [hc]); (try simp only [hcl] at hc); try omega))
  refine AL.own (by simp) hf fun h1 s1 n1 o1 => ?_
  have oa := o.stay s1 (fun h => h)
  have ma := m.stay s1 (fun h => h)
  have hf1 := s1.fl hf
  have o1 : Ev.Own h1 h.next [.i .i64 1, sv k, sv old, .i .i64 front, gone, .b had] := o1
  repeat' (first
    | refine St.h ?_
    | simp (disch := first | omega | (simp only [lnv]; omega)) only [wlk, mwk, ↓get_put', ↓reduceIte, Nat.min_eq_left, seval, oa.row.l1, o1.row.l1, ma.lk, hg, fv.ln]
    | (with_reducible (first | apply cd_split | apply gd_split)) <;> (intro hc; (try simp only [hcn] at hc); (try simp only [hc]); (try simp only [hcl] at hc); try omega))
  refine CL.pure (held_ok n bs.length) ?_
  rw [hz]
  repeat' (first
    | refine St.h ?_
    | simp (disch := first | omega | (simp only [lnv]; omega)) only [wlk, mwk, ↓get_put', ↓reduceIte, Nat.min_eq_left, seval, oa.row.l1, o1.row.l1, c2]
    | (with_reducible (first | apply cd_split | apply gd_split)) <;> (intro hc; (try simp only [hcn] at hc); (try simp only [hc]); (try simp only [hcl] at hc); try omega))
  have hd : decide ((0 : Int) < (z : Int)) = decide (0 < z) := decide_eq_decide.2 (by omega)
  refine CL.mk (setBack_ok (b := decide ((0 : Int) < (z : Int))) oa.row (by omega) ma hlE) ?_
  rintro y h2 ⟨rfl, m2, s2⟩
  repeat' (first
    | refine St.h ?_
    | simp (disch := first | omega | (simp only [lnv]; omega)) only [wlk, mwk, ↓get_put', ↓reduceIte, Nat.min_eq_left, seval]
    | (with_reducible (first | apply cd_split | apply gd_split)) <;> (intro hc; (try simp only [hcn] at hc); (try simp only [hc]); (try simp only [hcl] at hc); try omega))
  subst hQ
  refine ⟨rfl, ?_, (s1.mono fun _ _ e => e.elim).trans s2⟩
  rw [hd] at m2
  exact m2
theorem tb_add {s id : B} {rm n : Int} {f : Nat} {lo v gone : V} {E : En} {k old bs : List UInt8} {had : Bool} (o : Ev.Own h s [.i .i64 rm, .m id, lo]) (m : MapC h id E) (hsi : s ≠ id) (hf : B.val h.floor ≤ B.val h.next) (hlE : E.length ≤ 1048576) (hl : bs.length ≤ 9223372036854775807) (hfr : f ≤ bs.length)
    (hgo : IsSl gone) (hg : getE E k = some v) (fv : FileM h v bs) : FnOk Try.prog 56 [.p s 0 0 3, .a (actV 2 k old (f : Int) gone had), .i .i64 n] h fun y h' => y = .tu [] ∧
      MapC h' id (setE E k (fCut v (f + hlN n (bs.length - f)))) ∧ Stay (fun i => i = id) h h' := by
  have hz := heldZ_N n (bs.length - f)
  have hzl := hlN_le n (bs.length - f)
  obtain ⟨c1, c2⟩ := fv.cut (P := Try.prog) (k := f + hlN n (bs.length - f)) (by omega)
  generalize hlN n (bs.length - f) = z at *
  have e1 : (bs.length : Int) - (f : Int) = ((bs.length - f : Nat) : Int) := by omega
  have e2 : (f : Int) + (z : Int) = ((f + z : Nat) : Int) := by omega
  have hs1 : B.val s < B.val h.next := by obtain ⟨_, _, _, _, _, _, h6, _⟩ := o; exact h6
  have mi := m.lt
  unfold actV
  refine fn_go c56 (by intro hb; cases hb) (by simp) (by simp) fun Q hQ => ?_
  simp only [slotsF, Nat.reduceAdd]
  repeat' (first
    | refine St.h ?_
    | simp (disch := first | omega | (simp only [lnv]; omega)) only [wlk, mwk, ↓get_put', ↓reduceIte, Nat.min_eq_left, seval]
    | (with_reducible (first | apply cd_split | apply gd_split)) <;> (intro hc; (try simp only [hcn] at hc); (try simp only [hc]); (try simp only [hcl] at hc); try omega))
  refine AL.own (by simp) hf fun h1 s1 n1 o1 => ?_
  have oa := o.stay s1 (fun h => h)
  have ma := m.stay s1 (fun h => h)
  have hf1 := s1.fl hf
  have o1 : Ev.Own h1 h.next [.i .i64 2, sv k, sv old, .i .i64 (f : Int), gone, .b had] := o1
  repeat' (first
    | refine St.h ?_
    | simp (disch := first | omega | (simp only [lnv]; omega)) only [wlk, mwk, ↓get_put', ↓reduceIte, Nat.min_eq_left, seval, oa.row.l1, o1.row.l1, ma.lk, hg, fv.ln, e1]
    | (with_reducible (first | apply cd_split | apply gd_split)) <;> (intro hc; (try simp only [hcn] at hc); (try simp only [hc]); (try simp only [hcl] at hc); try omega))
  refine CL.pure (held_ok n ((bs.length - f : Nat) : Int)) ?_
  rw [hz]
  repeat' (first
    | refine St.h ?_
    | simp (disch := first | omega | (simp only [lnv]; omega)) only [wlk, mwk, ↓get_put', ↓reduceIte, Nat.min_eq_left, seval, oa.row.l1, o1.row.l1, e2, c2]
    | (with_reducible (first | apply cd_split | apply gd_split)) <;> (intro hc; (try simp only [hcn] at hc); (try simp only [hc]); (try simp only [hcl] at hc); try omega))
  refine MU.mk ma hlE fun h2 m2 s2 => ?_
  repeat' (first
    | refine St.h ?_
    | simp (disch := first | omega | (simp only [lnv]; omega)) only [wlk, mwk, ↓get_put', ↓reduceIte, Nat.min_eq_left, seval]
    | (with_reducible (first | apply cd_split | apply gd_split)) <;> (intro hc; (try simp only [hcn] at hc); (try simp only [hc]); (try simp only [hcl] at hc); try omega))
  subst hQ
  exact ⟨rfl, m2, (s1.mono fun _ _ e => e.elim).trans s2⟩
theorem tb_drop {s id : B} {rm n front : Int} {lo gone : V} {E : En} {k old : List UInt8} {had : Bool} (o : Ev.Own h s [.i .i64 rm, .m id, lo]) (m : MapC h id E) (hsi : s ≠ id) (hf : B.val h.floor ≤ B.val h.next) (hlE : E.length ≤ 1048576)
    (hgo : IsSl gone) : FnOk Try.prog 56 [.p s 0 0 3, .a (actV 4 k old front gone had), .i .i64 n] h fun y h' => y = .tu [] ∧
      MapC h' id (setE E k gone) ∧ Stay (fun i => i = id) h h' := by
  have hs1 : B.val s < B.val h.next := by obtain ⟨_, _, _, _, _, _, h6, _⟩ := o; exact h6
  have mi := m.lt
  unfold actV
  refine fn_go c56 (by intro hb; cases hb) (by simp) (by simp) fun Q hQ => ?_
  simp only [slotsF, Nat.reduceAdd]
  repeat' (first
    | refine St.h ?_
    | simp (disch := first | omega | (simp only [lnv]; omega)) only [wlk, mwk, ↓get_put', ↓reduceIte, Nat.min_eq_left, seval]
    | (with_reducible (first | apply cd_split | apply gd_split)) <;> (intro hc; (try simp only [hcn] at hc); (try simp only [hc]); (try simp only [hcl] at hc); try omega))
  refine AL.own (by simp) hf fun h1 s1 n1 o1 => ?_
  have oa := o.stay s1 (fun h => h)
  have ma := m.stay s1 (fun h => h)
  have hf1 := s1.fl hf
  have o1 : Ev.Own h1 h.next [.i .i64 4, sv k, sv old, .i .i64 front, gone, .b had] := o1
  repeat' (first
    | refine St.h ?_
    | simp (disch := first | omega | (simp only [lnv]; omega)) only [wlk, mwk, ↓get_put', ↓reduceIte, Nat.min_eq_left, seval, oa.row.l1, o1.row.l1, ma.lk]
    | (with_reducible (first | apply cd_split | apply gd_split)) <;> (intro hc; (try simp only [hcn] at hc); (try simp only [hc]); (try simp only [hcl] at hc); try omega))
  refine MU.mk ma hlE fun h2 m2 s2 => ?_
  repeat' (first
    | refine St.h ?_
    | simp (disch := first | omega | (simp only [lnv]; omega)) only [wlk, mwk, ↓get_put', ↓reduceIte, Nat.min_eq_left, seval]
    | (with_reducible (first | apply cd_split | apply gd_split)) <;> (intro hc; (try simp only [hcn] at hc); (try simp only [hc]); (try simp only [hcl] at hc); try omega))
  subst hQ
  exact ⟨rfl, m2, (s1.mono fun _ _ e => e.elim).trans s2⟩
theorem tb_same {s id : B} {rm n front : Int} {lo gone : V} {E : En} {k : List UInt8} {had : Bool} (o : Ev.Own h s [.i .i64 rm, .m id, lo]) (m : MapC h id E) (hsi : s ≠ id) (hf : B.val h.floor ≤ B.val h.next)
    (hgo : IsSl gone) : FnOk Try.prog 56 [.p s 0 0 3, .a (actV 3 k k front gone had), .i .i64 n] h fun y h' => y = .tu [] ∧ Stay nowhere h h' := by
  have hs1 : B.val s < B.val h.next := by obtain ⟨_, _, _, _, _, _, h6, _⟩ := o; exact h6
  have mi := m.lt
  unfold actV
  refine fn_go c56 (by intro hb; cases hb) (by simp) (by simp) fun Q hQ => ?_
  simp only [slotsF, Nat.reduceAdd]
  repeat' (first
    | refine St.h ?_
    | simp (disch := first | omega | (simp only [lnv]; omega)) only [wlk, mwk, ↓get_put', ↓reduceIte, Nat.min_eq_left, seval]
    | (with_reducible (first | apply cd_split | apply gd_split)) <;> (intro hc; (try simp only [hcn] at hc); (try simp only [hc]); (try simp only [hcl] at hc); try omega))
  refine AL.own (by simp) hf fun h1 s1 n1 o1 => ?_
  have oa := o.stay s1 (fun h => h)
  have ma := m.stay s1 (fun h => h)
  have hf1 := s1.fl hf
  have o1 : Ev.Own h1 h.next [.i .i64 3, sv k, sv k, .i .i64 front, gone, .b had] := o1
  repeat' (first
    | refine St.h ?_
    | simp (disch := first | omega | (simp only [lnv]; omega)) only [wlk, mwk, ↓get_put', ↓reduceIte, Nat.min_eq_left, seval, oa.row.l1, o1.row.l1, ma.lk]
    | (with_reducible (first | apply cd_split | apply gd_split)) <;> (intro hc; (try simp only [hcn] at hc); (try simp only [hc]); (try simp only [hcl] at hc); try omega))
  subst hQ
  exact ⟨rfl, s1⟩
theorem tb_swap {s id : B} {rm n front : Int} {lo v gone : V} {E : En} {k old : List UInt8} {had : Bool} (o : Ev.Own h s [.i .i64 rm, .m id, lo]) (m : MapC h id E) (hsi : s ≠ id) (hf : B.val h.floor ≤ B.val h.next) (hlE : E.length + 1 ≤ 1048576) (hko : old ≠ k)
    (hgo : IsSl gone) (hg : getE E k = some v) : FnOk Try.prog 56 [.p s 0 0 3, .a (actV 3 k old front gone had), .i .i64 n] h fun y h' => y = .tu [] ∧
      MapC h' id (if had then setE (setE E old v) k gone else delE (setE E old v) k) ∧ Stay (fun i => i = id) h h' := by
  have hne : decide (old = k) = false := decide_eq_false hko
  have hs1 : B.val s < B.val h.next := by obtain ⟨_, _, _, _, _, _, h6, _⟩ := o; exact h6
  have mi := m.lt
  unfold actV
  refine fn_go c56 (by intro hb; cases hb) (by simp) (by simp) fun Q hQ => ?_
  simp only [slotsF, Nat.reduceAdd]
  repeat' (first
    | refine St.h ?_
    | simp (disch := first | omega | (simp only [lnv]; omega)) only [wlk, mwk, ↓get_put', ↓reduceIte, Nat.min_eq_left, seval]
    | (with_reducible (first | apply cd_split | apply gd_split)) <;> (intro hc; (try simp only [hcn] at hc); (try simp only [hc]); (try simp only [hcl] at hc); try omega))
  refine AL.own (by simp) hf fun h1 s1 n1 o1 => ?_
  have oa := o.stay s1 (fun h => h)
  have ma := m.stay s1 (fun h => h)
  have hf1 := s1.fl hf
  have o1 : Ev.Own h1 h.next [.i .i64 3, sv k, sv old, .i .i64 front, gone, .b had] := o1
  repeat' (first
    | refine St.h ?_
    | simp (disch := first | omega | (simp only [lnv]; omega)) only [wlk, mwk, ↓get_put', ↓reduceIte, Nat.min_eq_left, seval, oa.row.l1, o1.row.l1, ma.lk, hg, hne]
    | (with_reducible (first | apply cd_split | apply gd_split)) <;> (intro hc; (try simp only [hcn] at hc); (try simp only [hc]); (try simp only [hcl] at hc); try omega))
  refine MU.mk ma (by omega) fun h2 m2 s2 => ?_
  have ob := oa.stay s2 hsi
  have o2 := o1.stay s2 (fun e => by rw [← e] at mi; exact absurd mi (Nat.lt_irrefl _))
  repeat' (first
    | refine St.h ?_
    | simp (disch := first | omega | (simp only [lnv]; omega)) only [wlk, mwk, ↓get_put', ↓reduceIte, Nat.min_eq_left, seval, ob.row.l1, o2.row.l1]
    | (with_reducible (first | apply cd_split | apply gd_split)) <;> (intro hc; (try simp only [hcn] at hc); (try simp only [hc]); (try simp only [hcl] at hc); try omega))
  have hl2 : (setE E old v).length ≤ 1048576 := by
    have h1 := keys_set E old v
    have h2 : (keysE (setE E old v)).length ≤ (keysE E).length + 1 := by rw [h1]; split <;> simp
    rw [keysE_len, keysE_len] at h2; omega
  refine CL.mk (setBack_ok (b := had) ob.row (by omega) m2 hl2) ?_
  rintro y h3 ⟨rfl, m3, s3⟩
  repeat' (first
    | refine St.h ?_
    | simp (disch := first | omega | (simp only [lnv]; omega)) only [wlk, mwk, ↓get_put', ↓reduceIte, Nat.min_eq_left, seval]
    | (with_reducible (first | apply cd_split | apply gd_split)) <;> (intro hc; (try simp only [hcn] at hc); (try simp only [hc]); (try simp only [hcl] at hc); try omega))
  subst hQ
  exact ⟨rfl, m3, ((s1.mono fun _ _ e => e.elim).trans s2).trans s3⟩
end
end Go.Proofs.Ytjlhfoadabkahaa

set_option linter.all false
namespace Go.Ev
open Go
section
variable {α β : Type} {X : List (List UInt8 × α)} {k j : List UInt8} {v w : α}
def gt (X : List (List UInt8 × α)) (k : List UInt8) : Option α := match X with
  | [] => none
  | a :: r => if k = a.1 then some a.2 else gt r k
def st (X : List (List UInt8 × α)) (k : List UInt8) (v : α) : List (List UInt8 × α) := match X with
  | [] => [(k, v)]
  | a :: r => if k = a.1 then (k, v) :: r else a :: st r k v
def dl (X : List (List UInt8 × α)) (k : List UInt8) : List (List UInt8 × α) := match X with
  | [] => []
  | a :: r => if k = a.1 then r else a :: dl r k
theorem gt_c (a : List UInt8 × α) (r) : gt (a :: r) k = if k = a.1 then some a.2 else gt r k := rfl
theorem st_c (a : List UInt8 × α) (r) : st (a :: r) k v = if k = a.1 then (k, v) :: r else a :: st r k v := rfl
theorem dl_c (a : List UInt8 × α) (r) : dl (a :: r) k = if k = a.1 then r else a :: dl r k := rfl
def mp2 (f : α → β) (X : List (List UInt8 × α)) : List (List UInt8 × β) := X.map fun p => (p.1, f p.2)
theorem gt_mp2 (f : α → β) : gt (mp2 f X) k = (gt X k).map f := by
  induction X with
  | nil => rfl
  | cons a r ih =>
    show gt ((a.1, f a.2) :: mp2 f r) k = _
    rw [gt_c, gt_c, ih]
    by_cases e : k = a.1
    · rw [if_pos e, if_pos e]; rfl
    · rw [if_neg e, if_neg e]
theorem st_mp2 (f : α → β) : st (mp2 f X) k (f v) = mp2 f (st X k v) := by
  induction X with
  | nil => rfl
  | cons a r ih =>
    show st ((a.1, f a.2) :: mp2 f r) k (f v) = _
    rw [st_c, st_c, ih]
    by_cases e : k = a.1
    · rw [if_pos e, if_pos e]; rfl
    · rw [if_neg e, if_neg e]; rfl
theorem dl_mp2 (f : α → β) : dl (mp2 f X) k = mp2 f (dl X k) := by
  induction X with
  | nil => rfl
  | cons a r ih =>
    show dl ((a.1, f a.2) :: mp2 f r) k = _
    rw [dl_c, dl_c, ih]
    by_cases e : k = a.1
    · rw [if_pos e, if_pos e]
    · rw [if_neg e, if_neg e]; rfl
theorem getE_gt (E : En) : getE E k = gt E k := by
  induction E with
  | nil => rfl
  | cons a r ih => rw [gt_c, ← ih]; rfl
theorem setE_st (E : En) (v : V) : setE E k v = st E k v := by
  induction E with
  | nil => rfl
  | cons a r ih => rw [st_c, ← ih]; rfl
theorem delE_dl (E : En) : delE E k = dl E k := by
  induction E with
  | nil => rfl
  | cons a r ih => rw [dl_c, ← ih]; rfl
theorem lookR_gt (L : List Fi) : lookR L k = gt L k := by
  induction L with
  | nil => rfl
  | cons a r ih =>
    rw [gt_c, lookR_c, ih]
    by_cases e : a.1 = k
    · rw [if_pos e, if_pos e.symm]
    · rw [if_neg e, if_neg fun h => e h.symm]
def nam (X : List (List UInt8 × α)) : List (List UInt8) := X.map (·.1)
theorem gt_none : gt X k = none ↔ k ∉ nam X := by
  induction X with
  | nil => simp [gt, nam]
  | cons a r ih =>
    rw [gt_c]
    show _ ↔ k ∉ a.1 :: nam r
    by_cases e : k = a.1
    · rw [if_pos e]; simp [e]
    · rw [if_neg e, ih]; simp [e]
theorem gt_st : gt (st X k v) j = if j = k then some v else gt X j := by
  induction X with
  | nil => show gt [(k, v)] j = _; rw [gt_c]
  | cons a r ih =>
    rw [st_c]
    by_cases e : k = a.1
    · rw [if_pos e, gt_c, gt_c]
      by_cases e2 : j = k
      · rw [if_pos e2, if_pos e2]
      · rw [if_neg e2, if_neg e2, if_neg (by rw [← e]; exact e2)]
    · rw [if_neg e, gt_c, ih, gt_c]
      by_cases e2 : j = a.1
      · rw [if_pos e2, if_pos e2, if_neg (fun h => e (by rw [← h]; exact e2))]
      · rw [if_neg e2, if_neg e2]
theorem gt_dl (hn : (nam X).Nodup) : gt (dl X k) j = if j = k then none else gt X j := by
  induction X with
  | nil => show gt [] j = _; split <;> rfl
  | cons a r ih =>
    have hn' : (a.1 :: nam r).Nodup := hn
    rw [List.nodup_cons] at hn'
    rw [dl_c]
    by_cases e : k = a.1
    · rw [if_pos e, gt_c]
      by_cases e2 : j = k
      · rw [if_pos e2]; exact gt_none.2 (by rw [e2, e]; exact hn'.1)
      · rw [if_neg e2, if_neg (by rw [← e]; exact e2)]
    · rw [if_neg e, gt_c, ih hn'.2, gt_c]
      by_cases e2 : j = a.1
      · rw [if_pos e2, if_pos e2, if_neg (fun h => e (by rw [← h]; exact e2))]
      · rw [if_neg e2, if_neg e2]
theorem st_perm : (st X k v).Perm ((k, v) :: dl X k) := by
  induction X with
  | nil => exact .refl _
  | cons a r ih =>
    rw [st_c, dl_c]
    by_cases e : k = a.1
    · rw [if_pos e, if_pos e]
    · rw [if_neg e, if_neg e]
      exact (ih.cons a).trans (.swap ..)
theorem gt_perm (h : gt X k = some v) : X.Perm ((k, v) :: dl X k) := by
  induction X with
  | nil => cases h
  | cons a r ih =>
    rw [gt_c] at h
    rw [dl_c]
    by_cases e : k = a.1
    · rw [if_pos e] at h ⊢
      cases h
      rw [e]
    · rw [if_neg e] at h ⊢
      exact ((ih h).cons a).trans (.swap ..)
theorem dl_none (h : gt X k = none) : dl X k = X := by
  induction X with
  | nil => rfl
  | cons a r ih =>
    rw [gt_c] at h
    rw [dl_c]
    by_cases e : k = a.1
    · rw [if_pos e] at h; cases h
    · rw [if_neg e] at h ⊢; rw [ih h]
theorem dl_nam (hn : (nam X).Nodup) : (nam (dl X k)).Nodup := by
  induction X with
  | nil => exact hn
  | cons a r ih =>
    have hn' : (a.1 :: nam r).Nodup := hn
    rw [List.nodup_cons] at hn'
    rw [dl_c]
    by_cases e : k = a.1
    · rw [if_pos e]; exact hn'.2
    · rw [if_neg e]
      show (a.1 :: nam (dl r k)).Nodup
      rw [List.nodup_cons]
      refine ⟨fun h => ?_, ih hn'.2⟩
      have hg : gt (dl r k) a.1 = gt r a.1 := by rw [gt_dl hn'.2, if_neg fun h => e h.symm]
      exact hn'.1 (Decidable.not_not.1 fun hc => (gt_none.1 (hg.trans (gt_none.2 hc))) h)
theorem st_nam (hn : (nam X).Nodup) : (nam (st X k v)).Nodup := by
  have p : (nam (st X k v)).Perm (k :: nam (dl X k)) := (st_perm (X := X) (k := k) (v := v)).map _
  rw [p.nodup_iff, List.nodup_cons]
  exact ⟨gt_none.1 (by rw [gt_dl hn, if_pos rfl]), dl_nam hn⟩
/-- two rows of the same names and what they have -/
theorem gt_ext {Y : List (List UInt8 × α)} (hX : (nam X).Nodup) (hY : (nam Y).Nodup) (h : ∀ k, gt X k = gt Y k) : X.Perm Y := by
  induction X generalizing Y with
  | nil =>
    cases Y with
    | nil => exact .refl _
    | cons a r => have := h a.1; rw [gt_c, if_pos rfl] at this; cases this
  | cons a r ih =>
    have hX' : (a.1 :: nam r).Nodup := hX
    rw [List.nodup_cons] at hX'
    have h1 : gt Y a.1 = some a.2 := by rw [← h a.1, gt_c, if_pos rfl]
    refine .trans ?_ (gt_perm h1).symm
    refine List.Perm.cons _ (ih hX'.2 (dl_nam hY) fun k => ?_)
    rw [gt_dl hY, ← h k, gt_c]
    by_cases e : k = a.1
    · rw [if_pos e]; exact gt_none.2 (by rw [e]; exact hX'.1)
    · rw [if_neg e, if_neg e]
end
end Go.Ev

set_option maxRecDepth 100000
set_option maxHeartbeats 8000000
set_option linter.all false
namespace Go.Proofs.Ytjlhfoadabkahaa
open Go Go.Ev
abbrev Fl := V × List UInt8
abbrev Xs := List (List UInt8 × Fl)
structure AB where
  kind : Int
  name : List UInt8
  old : List UInt8
  front : Nat
  gone : Option Fl
instance : Inhabited AB := ⟨⟨0, [], [], 0, none⟩⟩
noncomputable def AB.gv (a : AB) : V := match a.gone with
  | none => .l0
  | some f => f.1
noncomputable def actG (a : AB) : List V := actV a.kind a.name a.old (a.front : Int) a.gv a.gone.isSome
theorem actG_len (a : AB) : (actG a).length = 6 := rfl
def gones (U : List AB) : List Fl := U.flatMap fun a => a.gone.toList
def live (X : Xs) (U : List AB) : List Fl := X.map (·.2) ++ gones U
def apa (a b : Fl) : Prop := ∀ q, fOf a.1 q → ¬ fOf b.1 q
theorem apa_symm {a b : Fl} (h : apa a b) : apa b a := fun q h1 h2 => h q h2 h1
abbrev vX (X : Xs) : En := mp2 (fun f : Fl => f.1) X
abbrev bX (X : Xs) : List Fi := mp2 (fun f : Fl => f.2) X
/-- a shelf: U are the acts whose files live, W those that its slice of acts holds -/
structure ShM (h : H) (s : B) (mp lo : V) (X : Xs) (U W : List AB) (rm : Int) : Prop where
  own : Ev.Own h s [.i .i64 rm, mp, lo]
  map : (mp = .m0 ∧ X = [] ∧ U = []) ∨ ∃ id, mp = .m id ∧ MapC h id (vX X)
  buf : Buf h 84 6 lo (W.flatMap actG)
  fil : ∀ f ∈ live X U, FileM h f.1 f.2
  sm : mp ≠ .m s
  ls : ¬ isOf lo s
  lm : ∀ id, mp = .m id → ¬ isOf lo id
  fs : ∀ f ∈ live X U, ∀ q, fOf f.1 q → q ≠ s ∧ mp ≠ .m q ∧ ¬ isOf lo q
  fp : (live X U).Pairwise apa
def fpS (s : B) (mp lo : V) (X : Xs) (U : List AB) : B → Prop := fun q => q = s ∨ mp = .m q ∨ isOf lo q ∨ ∃ f ∈ live X U, fOf f.1 q
section
variable {h h' : H} {s : B} {mp lo mp' lo' : V} {X X' : Xs} {U U' W W' : List AB} {rm rm' : Int}
theorem ShM.slt (S : ShM h s mp lo X U W rm) : B.val s < B.val h.next := by obtain ⟨_, _, _, _, _, _, h6, _⟩ := S.own; exact h6
theorem ShM.mlt (S : ShM h s mp lo X U W rm) {q : B} (e : mp = .m q) : B.val q < B.val h.next := by
  rcases S.map with ⟨e', _⟩ | ⟨id, e', m⟩
  · rw [e] at e'; cases e'
  · rw [e] at e'; cases e'; exact m.lt
theorem ShM.lt (S : ShM h s mp lo X U W rm) {q : B} (hq : fpS s mp lo X U q) : B.val q < B.val h.next := by
  rcases hq with e | e | e | ⟨f, hf, e⟩
  · rw [e]; exact S.slt
  · exact S.mlt e
  · exact (S.buf.own e).2
  · exact ((S.fil f hf).own e).2
theorem ShM.nod (S : ShM h s mp lo X U W rm) : (nam X).Nodup := by
  rcases S.map with ⟨_, e, _⟩ | ⟨id, _, m⟩
  · rw [e]; exact List.nodup_nil
  · have := m.nod
    have e : keysE (vX X) = nam X := by
      unfold keysE nam
      show List.map _ (List.map _ _) = _
      rw [List.map_map]; rfl
    rwa [e] at this
theorem ShM.upd {F R F' : List Fl} (S : ShM h s mp lo X U W rm) (hp : (live X U).Perm (F ++ R)) (hp' : (live X' U').Perm (F' ++ R))
    (st : Stay (fun i => i = s ∨ mp = .m i ∨ isOf lo i ∨ ∃ f ∈ F, fOf f.1 i) h h') (own' : Ev.Own h' s [.i .i64 rm', mp', lo']) (map' : (mp' = .m0 ∧ X' = [] ∧ U' = []) ∨ ∃ id, mp' = .m id ∧ MapC h' id (vX X')) (buf' : Buf h' 84 6 lo' (W'.flatMap actG))
    (hm : ∀ i, mp' = .m i → mp = .m i ∨ B.val h.next ≤ B.val i) (hl : ∀ i, isOf lo' i → isOf lo i ∨ B.val h.next ≤ B.val i) (lm' : ∀ id, mp' = .m id → ¬ isOf lo' id)
    (fF : ∀ f ∈ F', FileM h' f.1 f.2 ∧ ∀ q, fOf f.1 q → ((∃ e ∈ F, fOf e.1 q) ∨ B.val h.next ≤ B.val q) ∧ q ≠ s ∧ mp' ≠ .m q ∧ ¬ isOf lo' q) (fP : F'.Pairwise apa) :
    ShM h' s mp' lo' X' U' W' rm' ∧ Stay (fpS s mp lo X U) h h' ∧ ∀ q, fpS s mp' lo' X' U' q → fpS s mp lo X U q ∨ B.val h.next ≤ B.val q := by
  have hs := S.slt
  have memF : ∀ {f}, f ∈ F → f ∈ live X U := fun h => hp.mem_iff.2 (List.mem_append_left _ h)
  have memR : ∀ {f}, f ∈ R → f ∈ live X U := fun h => hp.mem_iff.2 (List.mem_append_right _ h)
  have pw := (hp.pairwise_iff (fun h => apa_symm h)).1 S.fp
  rw [List.pairwise_append] at pw
  obtain ⟨_, pR, pFR⟩ := pw
  have apR : ∀ f ∈ R, ∀ q, fOf f.1 q → ¬ (q = s ∨ mp = .m q ∨ isOf lo q ∨ ∃ e ∈ F, fOf e.1 q) := by
    rintro f hf q hq (e | e | e | ⟨g, hg, e⟩)
    · exact (S.fs f (memR hf) q hq).1 e
    · exact (S.fs f (memR hf) q hq).2.1 e
    · exact (S.fs f (memR hf) q hq).2.2 e
    · exact pFR g hg f hf q e hq
  have ltR : ∀ f ∈ R, ∀ q, fOf f.1 q → B.val q < B.val h.next := fun f hf q hq => ((S.fil f (memR hf)).own hq).2
  refine ⟨⟨own', map', buf', fun f hf => ?_, fun e => ?_, fun e => ?_, lm', fun f hf q hq => ?_, ?_⟩, ?_, ?_⟩
  · rcases List.mem_append.1 (hp'.mem_iff.1 hf) with h1 | h1
    · exact (fF f h1).1
    · exact (S.fil f (memR h1)).stay st (apR f h1)
  · exact (hm s e).elim S.sm fun e => by omega
  · exact (hl s e).elim S.ls fun e => by omega
  · rcases List.mem_append.1 (hp'.mem_iff.1 hf) with h1 | h1
    · exact ((fF f h1).2 q hq).2
    · have := apR f h1 q hq
      have hlt := ltR f h1 q hq
      exact ⟨fun e => this (.inl e), fun e => (hm q e).elim (fun e => this (.inr (.inl e))) fun e => by omega, fun e => (hl q e).elim (fun e => this (.inr (.inr (.inl e)))) fun e => by omega⟩
  · refine (hp'.pairwise_iff (fun h => apa_symm h)).2 (List.pairwise_append.2 ⟨fP, pR, fun a ha b hb q q1 q2 => ?_⟩)
    rcases ((fF a ha).2 q q1).1 with ⟨e, he, e2⟩ | e
    · exact pFR e he b hb q e2 q2
    · have := ltR b hb q q2; omega
  · exact st.mono fun q _ e => e.elim .inl fun e => e.elim (fun e => .inr (.inl e)) fun e => e.elim (fun e => .inr (.inr (.inl e))) fun ⟨f, hf, e⟩ => .inr (.inr (.inr ⟨f, memF hf, e⟩))
  · rintro q (e | e | e | ⟨f, hf, e⟩)
    · exact .inl (.inl e)
    · exact (hm q e).imp_left fun e => .inr (.inl e)
    · exact (hl q e).imp_left fun e => .inr (.inr (.inl e))
    · rcases List.mem_append.1 (hp'.mem_iff.1 hf) with h1 | h1
      · exact ((fF f h1).2 q e).1.imp_left fun ⟨g, hg, e⟩ => .inr (.inr (.inr ⟨g, memF hg, e⟩))
      · exact .inl (.inr (.inr (.inr ⟨f, memR h1, e⟩)))
theorem ShM.stay {p : B → Prop} (S : ShM h s mp lo X U W rm) (t : Stay p h h') (hp : ∀ q, fpS s mp lo X U q → ¬ p q) : ShM h' s mp lo X U W rm :=
  ⟨S.own.stay t (hp s (.inl rfl)), S.map.elim .inl fun ⟨id, e, m⟩ => .inr ⟨id, e, m.stay t (hp id (.inr (.inl e)))⟩, S.buf.stay t fun q e => hp q (.inr (.inr (.inl e))), fun f hf => (S.fil f hf).stay t fun q e => hp q (.inr (.inr (.inr ⟨f, hf, e⟩))), S.sm, S.ls, S.lm, S.fs, S.fp⟩
end
end Go.Proofs.Ytjlhfoadabkahaa

set_option maxRecDepth 100000
set_option maxHeartbeats 8000000
set_option linter.all false
namespace Go.Proofs.Ytjlhfoadabkahaa
open Go Go.Ev
structure AC where
  kind : Int
  name : List UInt8
  old : List UInt8
  front : Nat
  gone : Option (List UInt8)
def absA (a : AB) : AC := ⟨a.kind, a.name, a.old, a.front, a.gone.map fun f => f.2⟩
section
variable {h h' : H} {s : B} {mp lo mp' lo' : V} {X X' : Xs} {U U' W W' : List AB} {rm rm' : Int} {k b : List UInt8} {f : Fl}
def AftS (h h' : H) (s : B) (mp lo : V) (X : Xs) (U : List AB) (C' : List Fi) (V' : List AC) (rm' : Int) : Prop :=
  ∃ mp' lo' X' U', bX X' = C' ∧ U'.map absA = V' ∧ ShM h' s mp' lo' X' U' U' rm' ∧ Stay (fpS s mp lo X U) h h' ∧ ∀ q, fpS s mp' lo' X' U' q → fpS s mp lo X U q ∨ B.val h.next ≤ B.val q
theorem gones_snoc {a : AB} : gones (U ++ [a]) = gones U ++ a.gone.toList := by unfold gones; rw [List.flatMap_append]; simp
theorem mem_vX {p : List UInt8 × V} (hp : p ∈ vX X) : ∃ x ∈ X, p = (x.1, x.2.1) := by
  obtain ⟨x, h1, h2⟩ := List.mem_map.1 hp
  exact ⟨x, h1, h2.symm⟩
theorem ShM.sl (S : ShM h s mp lo X U W rm) : ∀ p ∈ vX X, IsSl p.2 := fun p hp => by
  obtain ⟨x, h1, rfl⟩ := mem_vX hp
  exact (S.fil x.2 (List.mem_append_left _ (List.mem_map.2 ⟨x, h1, rfl⟩))).sl.1
theorem used_X (hX : ∀ x ∈ X, lenV x.2.1 = x.2.2.length) : usedE (vX X) = usedR (bX X) := by
  unfold usedE usedR
  show (List.map _ (List.map _ X)).sum = (List.map _ (List.map _ X)).sum
  rw [List.map_map, List.map_map]
  congr 1
  exact List.map_congr_left fun x hx => hX x hx
theorem ShM.used (S : ShM h s mp lo X U W rm) : usedE (vX X) = usedR (bX X) := used_X fun x hx => (S.fil x.2 (List.mem_append_left _ (List.mem_map.2 ⟨x, hx, rfl⟩))).sl.2
theorem get_X : getE (vX X) k = (gt X k).map fun f => f.1 := by rw [getE_gt]; exact gt_mp2 _
theorem set_X : setE (vX X) k f.1 = vX (st X k f) := by rw [setE_st]; exact st_mp2 (v := f) _
theorem del_X : delE (vX X) k = vX (dl X k) := by rw [delE_dl]; exact dl_mp2 _
theorem len_X : (vX X).length = X.length := List.length_map ..
theorem len_bX : (bX X).length = X.length := List.length_map ..
theorem mem_gt (h : gt X k = some f) : f ∈ X.map (·.2) := (((gt_perm h).map (·.2)).mem_iff).2 (List.mem_cons_self ..)
def pErr (rm : Int) (C : List Fi) (k b : List UInt8) : Int := if nameP k = false then 10 else if (gt C k).isSome then 14 else if 60 ≤ C.length ∨ max (rm - (usedR C : Int)) 0 < (b.length : Int) then 15 else 0
def aErr (rm : Int) (C : List Fi) (k b : List UInt8) : Int := if (gt C k).isSome = false then 14 else if max (rm - (usedR C : Int)) 0 < (b.length : Int) then 15 else 0
theorem get_iX : (getE (vX X) k).isSome = (gt (bX X) k).isSome := by
  rw [get_X, show gt (bX X) k = (gt X k).map fun f => f.2 from gt_mp2 _]
  cases gt X k <;> rfl
theorem ShM.pe (S : ShM h s mp lo X U W rm) : putErr rm (vX X) k b = pErr rm (bX X) k b := by unfold putErr pErr; rw [S.used, get_iX, len_X, len_bX]
theorem ShM.ae (S : ShM h s mp lo X U W rm) : addErr rm (vX X) k b = aErr rm (bX X) k b := by unfold addErr aErr; rw [S.used, get_iX]
end
end Go.Proofs.Ytjlhfoadabkahaa

set_option maxRecDepth 100000
set_option maxHeartbeats 8000000
set_option linter.all false
namespace Go.Proofs.Ytjlhfoadabkahaa
open Go Go.Ev
section
variable {h h' : H} {s : B} {mp lo mp' lo' : V} {X X' : Xs} {U U' W W' : List AB} {rm rm' : Int} {k n b : List UInt8} {f : Fl}
theorem ShM.mpB (S : ShM h s mp lo X U W rm) : MpB h mp (vX X) := S.map.elim (fun ⟨e, e2, _⟩ => .inl ⟨e, by rw [e2]; rfl⟩) fun ⟨id, e, m⟩ => .inr ⟨id, e, m.b⟩
theorem gX : gt (bX X) k = (gt X k).map fun f => f.2 := gt_mp2 _
theorem live_snoc {X : Xs} {a : AB} : live X (U ++ [a]) = X.map (·.2) ++ (gones U ++ a.gone.toList) := by unfold live; rw [gones_snoc]
theorem flat_snoc {a : AB} : (U ++ [a]).flatMap actG = U.flatMap actG ++ actG a := by rw [List.flatMap_append]; simp
theorem acts_len (hU : U.length ≤ 10000) : (U.flatMap actG).length + 6 ≤ 1048576 := by rw [fm_len actG_len]; omega
theorem abs_snoc {a : AB} : (U ++ [a]).map absA = U.map absA ++ [absA a] := by rw [List.map_append]; rfl
def putA (k : List UInt8) : AC := ⟨1, k, [], 0, none⟩
theorem sput_ok (S : ShM h s mp lo X U U rm) (hU : U.length ≤ 10000) (hu : usedR (bX X) ≤ 9223372036854775807) (h0 : 0 ≤ rm) (h1 : rm ≤ 1000000) (hk : k.length ≤ 9223372036854775807) (hb : b.length ≤ 9223372036854775807) (hf : B.val h.floor ≤ B.val h.next) :
    FnOk Try.prog 16 [.p s 0 0 3, sv k, sv b] h fun y h' => y = .i .i64 (pErr rm (bX X) k b) ∧ if pErr rm (bX X) k b = 0 then AftS h h' s mp lo X U (st (bX X) k b) (U.map absA ++ [putA k]) rm else h' = h := by
  by_cases he : pErr rm (bX X) k b = 0
  · simp only [if_pos he]
    have he' : putErr rm (vX X) k b = 0 := by rw [S.pe]; exact he
    have hg : gt X k = none := by
      cases hg : gt X k with
      | none => rfl
      | some f =>
        unfold pErr at he
        rw [gX, hg] at he
        by_cases hn : nameP k = false
        · rw [if_pos hn] at he; cases he
        · rw [if_neg hn] at he; cases he
    have fin : ∀ {y : V} {h' : H} {id : B} {lo' : V} {q : B}, (mp = .m id ∨ mp = .m0 ∧ B.val h.next ≤ B.val id) → B.val h.next ≤ B.val q → q ≠ id → Ev.Own h' s [.i .i64 rm, .m id, lo'] → MapC h' id (setE (vX X) k (fileV q 0 b.length)) → FileM h' (fileV q 0 b.length) b → Buf h' 84 6 lo' (U.flatMap actG ++ actV 1 k [] 0 .l0 false) →
        Stay (fun i => i = s ∨ mp = .m i ∨ isOf lo i) h h' → (∀ i, isOf lo' i → (isOf lo i ∨ B.val h.next ≤ B.val i) ∧ i ≠ q ∧ i ≠ id) → AftS h h' s mp lo X U (st (bX X) k b) (U.map absA ++ [putA k]) rm := by
      intro y h' id lo' q hid hq hqi o' m' f' b' s' hl
      have hs := S.slt
      have := S.upd (F := []) (R := live X U) (F' := [(fileV q 0 b.length, b)]) (X' := st X k (fileV q 0 b.length, b)) (U' := U ++ [⟨1, k, [], 0, none⟩]) (W' := U ++ [⟨1, k, [], 0, none⟩]) (rm' := rm) (mp' := .m id) (lo' := lo') (.refl _) ?_ (s'.mono fun i _ e => e.elim .inl fun e => e.elim (fun e => .inr (.inl e)) fun e => .inr (.inr (.inl e))) o' (.inr ⟨id, rfl, by rw [← set_X]; exact m'⟩) (by rw [flat_snoc]; exact b') ?_ (fun i e => (hl i e).1) ?_ ?_ (List.pairwise_singleton ..)
      · refine ⟨_, _, _, _, ?_, by rw [abs_snoc]; rfl, this⟩
        exact (st_mp2 (v := ((fileV q 0 b.length, b) : Fl)) (fun f : Fl => f.2)).symm
      · rw [live_snoc]
        have p := (st_perm (X := X) (k := k) (v := ((fileV q 0 b.length, b) : Fl))).map (·.2)
        rw [dl_none hg] at p
        refine (p.append_right _).trans ?_
        show ((fileV q 0 b.length, b) :: (X.map (·.2) ++ (gones U ++ []))).Perm _
        rw [List.append_nil]
        exact .refl _
      · intro i e
        cases e
        exact hid.imp_right (·.2)
      · intro i e; cases e; exact fun e => (hl _ e).2.2 rfl
      · intro f hf
        rw [List.mem_singleton.1 hf]
        refine ⟨f', fun p hp => ?_⟩
        rw [fOf_file hp]
        exact ⟨.inr hq, fun e => by rw [e] at hq; omega, fun e => by cases e; exact hqi rfl, fun e => (hl _ e).2.1 rfl⟩
    rcases S.map with ⟨e1, e2, _⟩ | ⟨id, e1, m⟩
    · subst e1 e2
      refine (put_new S.own S.buf S.ls hf (acts_len hU) h0 h1 hk hb he').mono ?_
      rintro y h' ⟨rfl, lo', q, id, hq, hi, hqi, o', m', f', b', s', hl⟩
      exact ⟨by rw [he], fin (y := .u) (.inr ⟨rfl, hi⟩) hq hqi o' m' f' b' (s'.mono fun i _ e => e.elim .inl fun e => .inr (.inr e)) fun i e => hl i e⟩
    · subst e1
      refine (put_ok S.own m S.buf (fun e => S.sm (by rw [e])) S.ls (S.lm id rfl) hf (acts_len hU) S.sl (by rw [S.used]; exact hu) h0 h1 hk hb he').mono ?_
      rintro y h' ⟨rfl, lo', q, hq, hqi, o', m', f', b', s', hl⟩
      refine ⟨by rw [he], fin (y := .u) (.inl rfl) hq hqi o' m' f' b' (s'.mono fun i _ e => e.elim .inl fun e => e.elim (fun e => .inr (.inl (by rw [e]))) fun e => .inr (.inr e)) fun i e => ⟨(hl i e).1, (hl i e).2, fun e2 => ?_⟩⟩
      have := m.lt
      rw [e2] at e
      exact (hl id e).1.elim (S.lm id rfl) fun e => by omega
  · simp only [if_neg he]
    refine (put_err S.own.row (by omega) S.mpB S.sl (by rw [S.used]; exact hu) h0 h1 hk hb (by rw [S.pe]; exact he)).mono ?_
    rintro y h' ⟨rfl, rfl⟩
    exact ⟨by rw [S.pe], rfl⟩
theorem used_gt : ∀ {L : List Fi} {k b0 : List UInt8}, gt L k = some b0 → b0.length ≤ usedR L
  | a :: r, k, b0, h => by
    rw [gt_c] at h
    unfold usedR
    rw [List.map_cons, List.sum_cons]
    by_cases e : k = a.1
    · rw [if_pos e] at h; rw [← Option.some.inj h]; exact Nat.le_add_right _ _
    · rw [if_neg e] at h
      have := used_gt h
      unfold usedR at this
      omega
def addA (k : List UInt8) (n : Nat) : AC := ⟨2, k, [], n, none⟩
theorem ShM.mem {f : Fl} (h : gt X k = some f) : f ∈ live X U := List.mem_append_left _ (mem_gt h)
theorem ShM.isMap (S : ShM h s mp lo X U W rm) (hg : gt X k = some f) : ∃ id, mp = .m id ∧ MapC h id (vX X) := by
  rcases S.map with ⟨_, e, _⟩ | h
  · rw [e] at hg; cases hg
  · exact h
theorem sadd_ok (S : ShM h s mp lo X U U rm) (hX : X.length ≤ 10000) (hU : U.length ≤ 10000) (hu : usedR (bX X) ≤ 1000000) (h0 : 0 ≤ rm) (h1 : rm ≤ 1000000) (hb : b.length ≤ 9223372036854775807) (hf : B.val h.floor ≤ B.val h.next) :
    FnOk Try.prog 18 [.p s 0 0 3, sv k, sv b] h fun y h' => y = .i .i64 (aErr rm (bX X) k b) ∧ if aErr rm (bX X) k b = 0 then AftS h h' s mp lo X U (st (bX X) k ((gt (bX X) k).getD [] ++ b)) (U.map absA ++ [addA k ((gt (bX X) k).getD []).length]) rm else h' = h := by
  by_cases he : aErr rm (bX X) k b = 0
  · simp only [if_pos he]
    have he' : addErr rm (vX X) k b = 0 := by rw [S.ae]; exact he
    obtain ⟨⟨v, bs⟩, hg⟩ : ∃ f, gt X k = some f := by
      cases hg : gt X k with
      | some f => exact ⟨f, rfl⟩
      | none => unfold aErr at he; rw [gX, hg] at he; cases he
    have hgb : gt (bX X) k = some bs := by rw [gX, hg]; rfl
    have hub := used_gt hgb
    have hbb : bs.length + b.length ≤ 1048576 := by
      unfold aErr at he
      rw [hgb, if_neg (fun h => by cases h)] at he
      by_cases hlt : max (rm - (usedR (bX X) : Int)) 0 < (b.length : Int)
      · rw [if_pos hlt] at he; cases he
      · omega
    obtain ⟨id, rfl, m⟩ := S.isMap hg
    have hm := ShM.mem (U := U) hg
    have hfs := S.fs _ hm
    refine (add_ok (v := v) (bs := bs) S.own m S.buf (fun e => S.sm (by rw [e])) S.ls (S.lm id rfl) hf (by rw [get_X, hg]; rfl) (S.fil _ hm) (fun e => (hfs s e).1 rfl) (fun e => (hfs id e).2.1 rfl) (fun q e => (hfs q e).2.2) (by rw [len_X]; omega) (acts_len hU) S.sl (by rw [S.used]; omega) h0 h1 hb hbb he').mono ?_
    rintro y h' ⟨rfl, lo', v', o', m', f', b', s', hl, hv, hvv⟩
    refine ⟨by rw [he], ?_⟩
    rw [hgb]
    have := S.upd (F := [(v, bs)]) (R := (dl X k).map (·.2) ++ gones U) (F' := [(v', bs ++ b)]) (X' := st X k (v', bs ++ b)) (U' := U ++ [⟨2, k, [], bs.length, none⟩]) (W' := U ++ [⟨2, k, [], bs.length, none⟩]) (rm' := rm) (mp' := .m id) (lo' := lo')
      (((gt_perm hg).map (·.2)).append_right _) ?_ (s'.mono fun i _ e => e.elim .inl fun e => e.elim (fun e => .inr (.inl (by rw [e]))) fun e => e.elim (fun e => .inr (.inr (.inl e))) fun e => .inr (.inr (.inr ⟨_, List.mem_singleton.2 rfl, e⟩))) o' (.inr ⟨id, rfl, by rw [← set_X]; exact m'⟩) (by rw [flat_snoc]; exact b') (fun i e => .inl e) hl ?_ ?_ (List.pairwise_singleton ..)
    · refine ⟨_, _, _, _, ?_, by rw [abs_snoc]; rfl, this⟩
      exact (st_mp2 (v := ((v', bs ++ b) : Fl)) (fun f : Fl => f.2)).symm
    · rw [live_snoc]
      have p := (st_perm (X := X) (k := k) (v := ((v', bs ++ b) : Fl))).map (·.2)
      refine (p.append_right _).trans ?_
      show ((v', bs ++ b) :: ((dl X k).map (·.2) ++ (gones U ++ []))).Perm _
      rw [List.append_nil]
      exact .refl _
    · intro i e; cases e; exact fun e => (hl _ e).elim (S.lm _ rfl) fun e => by have := m.lt; omega
    · intro f hf'
      rw [List.mem_singleton.1 hf']
      exact ⟨f', fun p hp => ⟨(hv p hp).imp_left fun e => ⟨_, List.mem_singleton.2 rfl, e⟩, (hvv p hp).1, fun e => (hvv p hp).2.1 (by cases e; rfl), (hvv p hp).2.2⟩⟩
  · simp only [if_neg he]
    refine (add_err S.own.row (by omega) S.mpB S.sl (by rw [S.used]; omega) h0 h1 hb (by rw [S.ae]; exact he)).mono ?_
    rintro y h' ⟨rfl, rfl⟩
    exact ⟨by rw [S.ae], rfl⟩
def dropA (k : List UInt8) (g : List UInt8) : AC := ⟨4, k, [], 0, some g⟩
/-- nothing but what lives moves -/
theorem ShM.upd0 {id : B} {a : AB} (S : ShM h s (.m id) lo X U U rm) (hp : (live X' (U ++ [a])).Perm (live X U)) (st : Stay (fun i => i = s ∨ i = id ∨ isOf lo i) h h') (own' : Ev.Own h' s [.i .i64 rm, .m id, lo']) (map' : MapC h' id (vX X')) (buf' : Buf h' 84 6 lo' (U.flatMap actG ++ actG a))
    (hl : ∀ i, isOf lo' i → isOf lo i ∨ B.val h.next ≤ B.val i) : AftS h h' s (.m id) lo X U (bX X') (U.map absA ++ [absA a]) rm := by
  have hid := S.mlt (q := id) rfl
  exact ⟨.m id, lo', X', U ++ [a], rfl, abs_snoc, S.upd (F := []) (R := live X U) (F' := []) (.refl _) hp (st.mono fun i _ e => e.elim .inl fun e => e.elim (fun e => .inr (.inl (by rw [e]))) fun e => .inr (.inr (.inl e))) own' (.inr ⟨id, rfl, map'⟩) (by rw [flat_snoc]; exact buf') (fun i e => .inl e) hl
    (fun i e e2 => by cases e; exact (hl _ e2).elim (S.lm _ rfl) fun e => by omega) (fun f hf => by cases hf) .nil⟩
theorem sdrop_ok (S : ShM h s mp lo X U U rm) (hX : X.length ≤ 10000) (hU : U.length ≤ 10000) (hf : B.val h.floor ≤ B.val h.next) :
    FnOk Try.prog 22 [.p s 0 0 3, sv k] h fun y h' => match gt (bX X) k with
      | none => y = .i .i64 14 ∧ h' = h
      | some g => y = .i .i64 0 ∧ AftS h h' s mp lo X U (dl (bX X) k) (U.map absA ++ [dropA k g]) rm := by
  rw [gX]
  cases hg : gt X k with
  | none => exact drop_none S.own.row (by omega) S.mpB (by rw [get_X, hg]; rfl)
  | some f =>
    obtain ⟨id, rfl, m⟩ := S.isMap hg
    have hm := ShM.mem (U := U) hg
    refine (drop_ok (v := f.1) S.own m S.buf (fun e => S.sm (by rw [e])) S.ls (S.lm id rfl) hf (by rw [len_X]; omega) (acts_len hU) (by rw [get_X, hg]; rfl) (S.fil _ hm).sl.1).mono ?_
    rintro y h' ⟨rfl, lo', o', m', b', s', hl⟩
    refine ⟨rfl, ?_⟩
    have := S.upd0 (X' := dl X k) (a := ⟨4, k, [], 0, some f⟩) ?_ s' o' (by rw [← del_X]; exact m') b' hl
    · rw [show dl (bX X) k = bX (dl X k) from dl_mp2 _]; exact this
    · rw [live_snoc]
      unfold live
      refine .trans ?_ (((gt_perm hg).map (·.2)).append_right _).symm
      show ((dl X k).map (·.2) ++ (gones U ++ [f])).Perm (f :: ((dl X k).map (·.2) ++ gones U))
      rw [← List.append_assoc]
      exact List.perm_append_singleton ..
end
end Go.Proofs.Ytjlhfoadabkahaa
