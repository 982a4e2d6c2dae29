/- Texts of ours, without what this claim does not use: Wq JrCp JrCl EnCp EnCc PlainI EnSi EvL EvQa EvQb. No condition. -/
import Derived.Test.YtiokhkainaodnaaGreatDoorPkSR4
import Derived.Test.YtiokhkainaodnaaGreatDoorProg
import Derived.KernelRfl
import Derived.Shelf.SlIterI.Nil
import Derived.Shelf.SortM.Plain
import Derived.Shelf.SortM.SortNone
import Derived.Ground.GgzProg
import Derived.Ground.SlgmProg
import Derived.ProofKit
set_option linter.all false
namespace Go.Ev
open Go
section
variable {P : Program} {nt : Nat} {ops : Array Oper} {Ts : Nat → F}
/-- operations that leave memory alone, and make the same of h and of h2 -/
def Ops2 (P : Program) : List CO → F → H → H → F → Prop
  | [], t, _, _, t' => t' = t
  | o :: l, t, h, h2, t' => ∃ t1, OpRel P o t h t1 h ∧ OpRel P o t h2 t1 h2 ∧ Ops2 P l t1 h h2 t'
theorem stepOf {nt : Nat} {ops : Array Oper} {i : Nat} {o : Oper} (hi : ops[i]? = some o) {b : Bool} {t t1 : F} {h h1 : H} (a : OpRel P ⟨compG nt ops.toList o.guard, dOf nt o.dst, b, compOp P o.op⟩ t h t1 h1) : StepOk P nt ops i o true t t1 h h1 := by
  have a' : DrRel P ⟨compG nt ops.toList o.guard, dOf nt o.dst, true, compOp P o.op⟩ t h t1 h1 := a
  obtain ⟨cf, hcf, e⟩ := drRel_run a'
  obtain ⟨t1', h1', a1, a2⟩ := dr_step hcf hi (ih := fun t h k => k t h) (k := fun _ _ => true) (e _ _)
  obtain ⟨rfl, rfl⟩ := same_of (fun k => (e (fun t h k => k t h) k).symm.trans (a1 k))
  exact a2
theorem ops2_trace {nt : Nat} {ops : Array Oper} (bars : Nat → Bool) {h h2 : H} : ∀ (l : List Oper) (n : Nat) (rest : List Oper), ops.toList.drop n = l ++ rest → ∀ (t t' : F),
    Ops2 P (compOpsWith bars P nt ops.toList (compOp P) n l) t h h2 t' →
    ∃ Ts : Nat → F, Ts n = t ∧ Ts (n + l.length) = t' ∧ ∀ (i : Nat) o, n ≤ i → i < n + l.length → ops[i]? = some o → StepOk P nt ops i o true (Ts i) (Ts (i + 1)) h h ∧ StepOk P nt ops i o true (Ts i) (Ts (i + 1)) h2 h2 := by
  intro l
  induction l with
  | nil =>
    intro n rest hl t t' hk
    obtain rfl : t' = t := hk
    exact ⟨fun _ => t', rfl, rfl, fun i o h1 h2 => by simp at h2; omega⟩
  | cons o l ih =>
    intro n rest hl t t' hk
    have hn : ops[n]? = some o := by
      have : ops.toList[n]? = some o := by
        have := congrArg (fun l => l[0]?) hl
        simpa using this
      simpa using this
    obtain ⟨t1, k1, k2, k3⟩ := hk
    have hl' : ops.toList.drop (n + 1) = l ++ rest := by rw [← List.drop_drop, hl]; rfl
    obtain ⟨Ts, b1, b2, b3⟩ := ih (n + 1) rest hl' _ _ k3
    refine ⟨fun i => if i = n then t else Ts i, by simp, ?_, fun i oi h1 h2 hi => ?_⟩
    · have e1 : n + (o :: l).length = n + 1 + l.length := by simp; omega
      rw [e1]
      simp only [show ¬ n + 1 + l.length = n by omega, if_false]
      exact b2
    · by_cases hin : i = n
      · subst hin
        rw [hn] at hi
        cases hi
        simp only [if_true, show ¬ i + 1 = i by omega, if_false, b1]
        exact ⟨stepOf hn k1, stepOf hn k2⟩
      · simp only [hin, if_false, show ¬ i + 1 = n by omega]
        exact b3 i oi (by omega) (by simp at h2; omega) hi
/-- all but two leave memory alone; the second one comes behind all that touch it, or ahead of them -/
theorem dw_core (hm : P.follows .mixedOrders = true) {nt : Nat} {ops : Array Oper} (hd : drawsOk ops.toList = true) {t t1 t2 t3 t4 t5 : F} {h h2 h3 : H} {pre mid rest : List CO} {A : CO} {g : G} {d : D} {r : CR}
    (el : compOpsWith (barAt P ops.toList (befs ops.toList [])) P nt ops.toList (compOp P) 0 ops.toList = pre ++ A :: (mid ++ .mk g d true r :: rest))
    (p1 : Ops2 P pre t h h2 t1) (p2 : OpRel P A t1 h t2 h2) (p3 : Ops2 P mid t2 h h2 t3) (p4 : OpRel P (.mk g d true r) t3 h2 t4 h3) (p5 : Ops2 P rest t4 h3 h3 t5) : KeepF h h3 ∧ B.val h.next ≤ B.val h3.next ∧ ∀ ρ a w w0 (id : Nat) (Q : Exit → Act → World → Prop), ARel ρ nt t a → HRel ρ h w w0 → (∀ ρ' a' w', Ext h.floor ρ ρ' → ARel ρ' nt t5 a' → HRel ρ' h3 w' w0 → Q .normal a' w') → (Code.region id ops true).wp P Q a w := by
  obtain ⟨lp, l1, q1, q2, q3⟩ := cow_app el
  obtain ⟨oa, l2, rfl, q4, q5⟩ := cow_cons q3
  obtain ⟨lm, l3, rfl, q6, q7⟩ := cow_app q5
  obtain ⟨ob, lr, rfl, q8, q9⟩ := cow_cons q7
  rw [Nat.zero_add] at q4 q6 q8 q9
  have hop : ∀ (i : Nat) o, ops.toList[i]? = some o → ops[i]? = some o := fun i o e => by simpa using e
  generalize hb0 : lp.length + 1 + lm.length = b at *
  have hn : ops.size = b + 1 + lr.length := by have := congrArg List.length q1; simp at this; omega
  have ha : ops[lp.length]? = some oa := hop _ _ (by rw [q1]; simp)
  have hb : ops[b]? = some ob := hop _ _ (by rw [q1, ← hb0, List.getElem?_append_right (by omega), show lp.length + 1 + lm.length - lp.length = lm.length + 1 by omega, List.getElem?_cons_succ]; simp)
  obtain ⟨T0, b1, b2, b3⟩ := ops2_trace (P := P) (nt := nt) (ops := ops) (h := h) (h2 := h2) _ lp 0 _ (by rw [List.drop_zero]; exact q1) t t1 (by rw [q2]; exact p1)
  rw [Nat.zero_add] at b2 b3
  obtain ⟨T1, c1, c2, c3⟩ := ops2_trace (P := P) (nt := nt) (ops := ops) (h := h) (h2 := h2) _ lm (lp.length + 1) _ (by rw [q1, ← List.drop_drop, List.drop_left]; rfl) t2 t3 (by rw [q6]; exact p3)
  obtain ⟨T2, d1, d2, d3⟩ := ops2_trace (P := P) (nt := nt) (ops := ops) (h := h3) (h2 := h3) _ lr (b + 1) [] (by rw [q1, ← hb0, List.append_nil, show lp.length + 1 + lm.length + 1 = lp.length + (1 + (lm.length + 1)) by omega, ← List.drop_drop, List.drop_left, ← List.drop_drop, List.drop_one, List.tail_cons, ← List.drop_drop, List.drop_left]; rfl) t4 t5 (by rw [q9]; exact p5)
  rw [hb0] at c2 c3
  have hbar : barAt P ops.toList (befs ops.toList []) b = true := by
    injection q8 with _ _ e _
    exact e.symm
  have SA := stepOf ha (by rw [q4] at p2; exact p2)
  have SB := stepOf hb (by have e := q8; rw [hbar] at e; rw [e] at p4; exact p4)
  let Ts : Nat → F := fun i => if i ≤ lp.length then T0 i else if i ≤ b then T1 i else T2 i
  have U0 : ∀ i, i ≤ lp.length → Ts i = T0 i := fun i hi => if_pos hi
  have U1 : ∀ i, lp.length < i → i ≤ b → Ts i = T1 i := fun i hi hj => by
    show (if _ then _ else _) = _
    rw [if_neg (by omega), if_pos hj]
  have U2 : ∀ i, b < i → Ts i = T2 i := fun i hi => by
    show (if _ then _ else _) = _
    rw [if_neg (by omega), if_neg (by omega)]
  have hA : ∀ o, ops[lp.length]? = some o → StepOk P nt ops lp.length o true (Ts lp.length) (Ts (lp.length + 1)) h h2 := fun o ho => by
    rw [ha] at ho; cases ho
    rw [U0 _ (Nat.le_refl _), U1 _ (by omega) (by omega), b2, c1]; exact SA
  have hB : ∀ o, ops[b]? = some o → StepOk P nt ops b o true (Ts b) (Ts (b + 1)) h2 h3 := fun o ho => by
    rw [hb] at ho; cases ho
    rw [U1 _ (by omega) (Nat.le_refl _), U2 _ (by omega), c2, d1]; exact SB
  obtain ⟨f1, f2, f3⟩ := dual_ok (nt := nt) (ops := ops) (Ts := Ts) (n := lp.length) (p := b) (h := h) (h2 := h2) (h3 := h3) hm hd (by omega) (by omega) hbar
    (fun i o hi hne ho => by
      by_cases e : i < lp.length
      · rw [U0 i (by omega), U0 (i + 1) (by omega)]
        exact b3 i o (Nat.zero_le _) e ho
      · rw [U1 i (by omega) (by omega), U1 (i + 1) (by omega) (by omega)]
        exact c3 i o (by omega) hi ho)
    (fun i o hi ho => by
      have : i < ops.size := (Array.getElem?_eq_some_iff.1 ho).1
      rw [U2 i hi, U2 (i + 1) (by omega)]
      exact (d3 i o (by omega) (by omega) ho).1) hA hB
  exact ⟨f1, f2, fun ρ a w w0 id Q A R hQ => f3 ρ a w w0 id Q (by rw [U0 0 (Nat.zero_le _), b1]; exact A) R (by rw [hn, U2 _ (by omega), d2]; exact hQ)⟩
theorem Ok.dw1 (hm : P.follows .mixedOrders = true) {nt : Nat} {t t1 t2 t3 t4 t5 : F} {h h2 h3 : H} {K : X → F → H → Prop} {pre mid rest : List CO} {A : CO} {g : G} {d : D} {r : CR} {ch : Option (List Nat × List (Nat × List Nat))} 
    (p1 : Ops2 P pre t h h2 t1) (p2 : OpRel P A t1 h t2 h2) (p3 : Ops2 P mid t2 h h2 t3) (p4 : OpRel P (.mk g d true r) t3 h2 t4 h3) (p5 : Ops2 P rest t4 h3 h3 t5) (k : K .normal t5 h3) : Ok P nt (.draws (pre ++ A :: (mid ++ .mk g d true r :: rest)) ch) t h K := by
  refine ⟨.normal, t5, h3, by_scopes _ fun c e' hs => ?_, k⟩
  cases c with
  | region id ops draw =>
    have e1 : compRegion P nt ops.toList draw = .draws (pre ++ A :: (mid ++ .mk g d true r :: rest)) ch := e'
    obtain ⟨rfl, hd, e1⟩ := reg_dr e1
    obtain ⟨f1, f2, f3⟩ := dw_core hm hd (CC.draws.inj e1).1 p1 p2 p3 p4 p5
    exact ⟨f1, f2, fun ρ a w w0 Q A R hQ => f3 ρ a w w0 id Q A R hQ⟩
  | scope d => exact absurd rfl (hs d)
  | _ => cases e'
/-- a region that draws, where the walk stops -/
def DW (P : Program) (nt : Nat) (l : List CO) (t : F) (h : H) (K : X → F → H → Prop) : Prop := ∀ ch, Ok P nt (.draws l ch) t h K
theorem DW.gen (hm : P.follows .mixedOrders = true) {nt : Nat} {t t1 t2 t3 t4 t5 : F} {h h2 h3 : H} {K : X → F → H → Prop} {l pre mid rest : List CO} {A : CO} {g : G} {d : D} {r : CR} (hl : l = pre ++ A :: (mid ++ .mk g d true r :: rest))
    (p1 : Ops2 P pre t h h2 t1) (p2 : OpRel P A t1 h t2 h2) (p3 : Ops2 P mid t2 h h2 t3) (p4 : OpRel P (.mk g d true r) t3 h2 t4 h3) (p5 : Ops2 P rest t4 h3 h3 t5) (k : K .normal t5 h3) : DW P nt l t h K := by
  intro ch
  rw [hl]
  exact Ok.dw1 hm p1 p2 p3 p4 p5 k
theorem DW.two (hm : P.follows .mixedOrders = true) {nt : Nat} {t t1 t2 t3 : F} {h h2 h3 : H} {K : X → F → H → Prop} {l pre : List CO} {A : CO} {g : G} {d : D} {r : CR} (hl : l = pre ++ [A, .mk g d true r])
    (p1 : Ops2 P pre t h h2 t1) (p2 : OpRel P A t1 h t2 h2) (p3 : OpRel P (.mk g d true r) t2 h2 t3 h3) (k : K .normal t3 h3) : DW P nt l t h K := DW.gen (mid := []) (rest := []) hm hl p1 p2 rfl p3 rfl k
section
variable {r : Run} {t t' : F} {h h1 h2 : H} {v : V} {n : Nat} {b : Bool} {l : List CO}
end
end
end Go.Ev

set_option maxRecDepth 1000000
set_option linter.all false
namespace Go.Proofs.YtiokhkainaodnaaGreatDoor
open Go Go.Ev
noncomputable abbrev s50_0 : CC := (CC.draws [(uB 8 (doMove (tm 0))), (uB 9 (doNilCheck (tm 8))), (uB 10 (doFieldAddr 0 (tm 9))), (uB 11 (doLoad (tm 10))), (uB 12 (doMove (tm 0))), (uB 13 (doNilCheck (tm 12))), (uB 14 (doFieldAddr 1 (tm 13))), (uB 15 (doLoad (tm 14))), (uB 16 (doMapLen (tm 15))), (uB 17 (doMakeMap (some (tm 16)))), (uB 18 (doMove (tm 0))), (uB 19 (doNilCheck (tm 18))), (uB 20 (doFieldAddr 2 (tm 19))), (uB 21 (doLoad (tm 20))), (uB 22 (doCall 120 [(tm 21)])), (uB 23 (doBuild [(V.i IntKind.i64 (Int.ofNat 0)), V.m0, V.l0] [(Pt.mk 0 1 (tm 11)), (Pt.mk 1 1 (tm 17)), (Pt.mk 2 1 (tm 22))])), (wB 24 (doBox 115 (tm 23))), (uB 3 (doMove (tm 24)))] none)
noncomputable abbrev r50_0 : RgP := (RgP.mk [(wB 25 (doMove (tm 0))), (wB 26 (doNilCheck (tm 25))), (wB 27 (doFieldAddr 1 (tm 26))), (wB 28 (doLoad (tm 27)))] (Operand.tmp 28) 29 [(wB 31 (doExtract 0 (tm 30)))] (Operand.tmp 31) 0 1 30 32 [(wB 33 (doExtract 0 (tm 32))), (wB 34 (doExtract 1 (tm 32))), (wB 4 (doMove (tm 33))), (wB 5 (doMove (tm 34)))])
noncomputable abbrev s50_1 : CC := (CC.draws [(uB 35 (doMove (tm 3))), (uB 36 (doNilCheck (tm 35))), (uB 37 (doFieldAddr 1 (tm 36))), (uB 38 (doLoad (tm 37))), (uB 39 (doMove (tm 4))), (uB 40 (doMove (tm 5))), (uB 41 (doCall 121 [(tm 40)])), (CO.mk G.none D.none Bool.true (CR.mk (doMapSet none (tm 38) (tm 39) (tm 41))))] (some ([6, 7], [(1, [0, 7]), (3, [0, 7])])))
noncomputable abbrev s50_2 : Sh := (Sh.cc s50_1)
noncomputable abbrev s50_3 : CC := (CC.cond (tm 48) CC.skip (CC.exit 2))
noncomputable abbrev s50_4 : CC := (CC.draws [(uB 52 (doMove (tm 3))), (uB 53 (doNilCheck (tm 52))), (uB 54 (doFieldAddr 2 (tm 53))), (uB 55 (doLoad (tm 54))), (uB 56 (doMove (tm 6))), (uB 57 (doFieldAddr 4 (tm 7))), (uB 58 (doLoad (tm 57))), (uB 59 (doCall 121 [(tm 58)])), (uB 60 (doIndexAddr 6 (tm 55) (tm 56))), (uB 61 (doFieldAddr 4 (tm 60))), (CO.mk G.none D.none Bool.true (CR.mk (doStore 1 (tm 61) (tm 59))))] (some ([7, 10], [(1, [0, 8]), (3, [0, 8]), (6, [0])])))
noncomputable abbrev s50_5 : CC := (CC.seq (CC.region [(wB 49 (doMove (tm 47))), (wB 50 (doIndexAddr 6 (tm 45) (tm 47))), (wB 51 (doLoadA 6 (tm 50))), (wB 7 (doAlloc 201 [(V.i IntKind.i64 (Int.ofNat 0)), (V.s 0 0), (V.s 0 0), (V.i IntKind.i64 (Int.ofNat 0)), V.l0, (V.b Bool.false)])), (wB 6 (doMove (tm 49))), (CO.mk G.none D.none Bool.true (CR.mk (doStore 6 (tm 7) (tm 51))))]) s50_4)
noncomputable abbrev s50_6 : CC := (CC.block 3 s50_5)
noncomputable abbrev s50_7 : CC := (CC.region [(wB 62 (bin2 fAdd (tm 47) (oN 1))), (wB 47 (doMove (tm 62)))])
noncomputable abbrev s50_8 : CC := (CC.seq s50_6 s50_7)
noncomputable abbrev s50_9 : CC := (CC.seq s50_3 s50_8)
noncomputable abbrev l50_0 : CC := (CC.seq (CC.region [(wB 48 (bin2 fLss (tm 47) (tm 46)))]) s50_9)
noncomputable abbrev s50_10 : CC := (CC.loop l50_0)
noncomputable abbrev s50_11 : CC := (CC.block 2 s50_10)
noncomputable abbrev s50_12 : CC := (CC.seq (CC.region [(wB 42 (doMove (tm 3))), (wB 43 (doNilCheck (tm 42))), (wB 44 (doFieldAddr 2 (tm 43))), (wB 45 (doLoad (tm 44))), (wB 46 (doLen (tm 45))), (wB 47 (doMove (oN 0)))]) s50_11)
noncomputable abbrev s50_13 : CC := (CC.seq (CC.region [(wB 63 (doMove (tm 3))), (wB 2 (doMove (tm 63)))]) CC.ret)
noncomputable abbrev s50_14 : CC := (CC.seq s50_12 s50_13)
noncomputable abbrev s50_15 : Sh := (Sh.cc s50_14)
noncomputable abbrev s50_16 : Sh := (Sh.seq (Sh.rng r50_0 s50_2) s50_15)
noncomputable abbrev s50_17 : Sh := (Sh.seq (Sh.cc s50_0) s50_16)
noncomputable abbrev b50 : Sh := (Sh.seq (Sh.cc (CC.region [(wB 2 (doMove (O.c V.p0)))])) s50_17)
theorem cs50 : shFnN Tryz.prog [] 50 = ⟨64, b50, [(Rs.tmp (slOf 2))]⟩ := by kernel_rfl
end Go.Proofs.YtiokhkainaodnaaGreatDoor

set_option maxRecDepth 1000000
set_option linter.all false
namespace Go.Proofs.YtiokhkainaodnaaGreatDoor
open Go Go.Ev
noncomputable abbrev s121_0 : CC := (CC.seq (CC.region [(wB 2 (doMove (O.c V.l0)))]) CC.ret)
noncomputable abbrev s121_1 : CC := (CC.cond (tm 4) s121_0 CC.skip)
noncomputable abbrev s121_2 : CC := (CC.seq (CC.region [(wB 3 (doMove (tm 0))), (wB 4 (doNil vLN Bool.false (tm 3) (O.c V.l0)))]) s121_1)
noncomputable abbrev s121_3 : CC := (CC.seq (CC.region [(wB 5 (doBuildSlice 5 0 [] [])), (wB 6 (doMove (tm 0))), (wB 7 (doAppend 5 1 (tm 5) (tm 6))), (wB 2 (doMove (tm 7)))]) CC.ret)
noncomputable abbrev s121_4 : CC := (CC.seq s121_2 s121_3)
noncomputable abbrev b121 : CC := (CC.seq (CC.region [(wB 2 (doMove (O.c V.l0)))]) s121_4)
theorem c121 : compFn Tryz.prog 121 = ⟨8, b121, [(Rs.tmp (slOf 2))]⟩ := by kernel_rfl
noncomputable abbrev s120_0 : CC := (CC.seq (CC.region [(wB 2 (doMove (O.c V.l0)))]) CC.ret)
noncomputable abbrev s120_1 : CC := (CC.cond (tm 4) s120_0 CC.skip)
noncomputable abbrev s120_2 : CC := (CC.seq (CC.region [(wB 3 (doMove (tm 0))), (wB 4 (doNil vLN Bool.false (tm 3) (O.c V.l0)))]) s120_1)
noncomputable abbrev s120_3 : CC := (CC.seq (CC.region [(wB 5 (doBuildSlice 201 0 [] [])), (wB 6 (doMove (tm 0))), (wB 7 (doAppend 201 6 (tm 5) (tm 6))), (wB 2 (doMove (tm 7)))]) CC.ret)
noncomputable abbrev s120_4 : CC := (CC.seq s120_2 s120_3)
noncomputable abbrev b120 : CC := (CC.seq (CC.region [(wB 2 (doMove (O.c V.l0)))]) s120_4)
theorem c120 : compFn Tryz.prog 120 = ⟨8, b120, [(Rs.tmp (slOf 2))]⟩ := by kernel_rfl
end Go.Proofs.YtiokhkainaodnaaGreatDoor

set_option maxRecDepth 100000
set_option maxHeartbeats 8000000
set_option linter.all false
namespace Go.Proofs.YtiokhkainaodnaaGreatDoor
open Go Go.Ev
/-- a block just as it was laid -/
structure OwnX (h : H) (id : B) (el : Nat) (xs : List V) : Prop where
  ex : ∃ blk, h.heap.get id = some blk ∧ blk.cur = 0 ∧ blk.min = 0 ∧ blk.fr = 0 ∧ blk.el = el ∧ blk.size = xs.length ∧ ∀ i y, xs[i]? = some y → blk.cells.getN i = some y
  fl : B.val h.floor ≤ B.val id
  lt : B.val id < B.val h.next
theorem CL.mkU {h : H} {P : Program} {f : FuncId} {vs : List V} {m : Nat} {l : List CO} {t : F} {K : F → H → Prop} {Q : V → H → Prop} (a : FnOk P f vs (reFloor h) Q) (k : ∀ v h', Q v h' → DO P l (put m v t) (unFloor h h') K) : CL P f vs (reFloor h) (.u m l t h K) := ⟨_, a, fun v h' hq => by rw [go_u]; exact k v h' hq⟩
theorem stay_past {h h1 h2 : H} {p q : B → Prop} (a : Stay p h h1) (b : Stay q h1 h2) (hq : ∀ i, q i → p i ∨ B.val h.next ≤ B.val i) : Stay p h h2 :=
  ⟨b.floor.trans a.floor, Nat.le_trans a.next b.next, fun i hi hp => (b.get i (Nat.lt_of_lt_of_le hi a.next) fun e => (hq i e).elim hp fun h => absurd hi (Nat.not_lt.2 h)).trans (a.get i hi hp)⟩
abbrev Cs := List (List UInt8 × V × List UInt8)
def vCs (X : Cs) : En := X.map fun z => (z.1, z.2.1)
def bCs (X : Cs) : List (List UInt8 × List UInt8) := X.map fun z => (z.1, z.2.2)
/-- an act of which nothing is gone -/
structure AC where
  kind : Int
  name : List UInt8
  old : List UInt8
  front : Int
  had : Bool
instance : Inhabited AC := ⟨⟨0, [], [], 0, false⟩⟩
def actC (a : AC) : List V := [.i .i64 a.kind, sv a.name, sv a.old, .i .i64 a.front, .l0, .b a.had]
section
variable {h h' : H} {N : Nx} {id s : B} {el : Nat} {xs : List V} {v mp lo : V} {bs : List UInt8} {X : Cs} {rm : Int} {U : List AC}
theorem OwnX.own (o : OwnX h id el xs) : Ev.Own h id xs := by
  obtain ⟨⟨blk, h1, h2, h3, h4, h5, h6, h7⟩, f, l⟩ := o
  exact ⟨blk, h1, h2, h3, h4, f, l, h7⟩
theorem OwnX.stay {p : B → Prop} (o : OwnX h id el xs) (s : Stay p h h') (hp : ¬ p id) : OwnX h' id el xs := by
  obtain ⟨⟨blk, h1, h2⟩, f, l⟩ := o
  exact ⟨⟨blk, (s.get id l hp).trans h1, h2⟩, by rw [s.floor]; exact f, Nat.lt_of_lt_of_le l s.next⟩
theorem OwnX.un {h0 : H} (o : OwnX h' id el xs) (e : h'.floor = h0.next) (hf : B.val h0.floor ≤ B.val h0.next) : OwnX (unFloor h0 h') id el xs := by
  obtain ⟨o1, o2, o3⟩ := o
  rw [e] at o2
  cases h0; cases h'
  exact ⟨o1, Nat.le_trans hf o2, o3⟩
theorem AP.empty {P : Program} {size cnt : Nat} {x : V} {vs : List V} {g off fin : Nat} (hx : ∀ k : Nat → List V → Bool, newCells size x h k = k cnt vs) (hf : B.val h.floor ≤ B.val h.next) (hn : vs.length = cnt * size) (hc : 1 ≤ cnt) (hl : cnt ≤ 1048576) (hl2 : vs.length < 2 ^ 38)
    (k : ∀ h', Stay nowhere h h' → B.val h'.next = B.val h.next + 1 → OwnX h' h.next el vs → N.go P (.l h.next 0 0 cnt (cnt * size) none) h') : AP P el size (.l id g off 0 fin (some 0)) x h N := by
  obtain ⟨h', a1, a2, a3, blk, b1, b2, b3, b4, b5, b6, b7⟩ := alloc_new el vs h hl2
  obtain ⟨m, rfl⟩ : ∃ m, cnt = m + 1 := ⟨cnt - 1, by omega⟩
  have hble : Nat.ble (Nat.add 0 (m + 1)) 1048576 = true := by rw [Nat.ble_eq]; show 0 + (m + 1) ≤ _; omega
  have hno : Nat.ble (Nat.add 0 (m + 1)) 0 = false := by
    cases hx : Nat.ble (Nat.add 0 (m + 1)) 0 with
    | false => rfl
    | true => have := Nat.le_of_ble_eq_true hx; have h2 : 0 + (m + 1) ≤ 0 := this; omega
  refine hm_of (v := .l h.next 0 0 (m + 1) ((m + 1) * size) none) (h' := h') (fun q => ?_) (k h' a2 a3 ⟨⟨blk, b1, b3, b2, b6, b5, b4, b7⟩, by rw [a2.floor]; exact hf, by omega⟩)
  rw [hx]
  show boolK (flagB 0) (fun _ => appGrow (selB (Nat.ble 1 0) (Nat.beq 0 (Nat.add 18446744073709551615 size))) el id g off 0 fin size (m + 1) vs h q) (fun _ => boolK (Nat.ble (Nat.add 0 (m + 1)) 0) (fun _ => appIn id g off 0 fin 0 size (m + 1) vs h q) fun _ => appOut el id g off 0 fin size (m + 1) vs h q) = _
  rw [flagB_of (by omega), boolK_false, hno, boolK_false]
  unfold appOut
  rw [hble, ifK_true]
  show alloc el (app [] vs) h (fun id h => fN (Nat.add 0 (m + 1)) fun l' => fN (Nat.mul l' size) fun fin' => q (.l id 0 0 l' fin' none) h) = _
  rw [app_eq, List.nil_append, a1, fN_eq, fN_eq]
  show q (.l h.next 0 0 (0 + (m + 1)) ((0 + (m + 1)) * size) none) h' = _
  rw [Nat.zero_add]
theorem AP.empty0 {P : Program} {size : Nat} {x : V} {g off fin : Nat} (hx : ∀ k : Nat → List V → Bool, newCells size x h k = k 0 []) (k : N.go P (.l id g off 0 fin (some 0)) h) : AP P el size (.l id g off 0 fin (some 0)) x h N :=
  hm_of (v := .l id g off 0 fin (some 0)) (h' := h) (fun q => by rw [hx]; rfl) k
/-- a file that is read; it was there ahead of n0 -/
def FileR (n0 : B) (h : H) (v : V) (bs : List UInt8) : Prop :=
  (bs = [] ∧ ∃ id g off fin cap, v = .l id g off 0 fin cap) ∨ ∃ q g off fin cap, v = .l q g off bs.length fin cap ∧ off + bs.length ≤ fin ∧ B.val q < B.val n0 ∧ Row h q g off (bs.map bv)
variable {n0 : B}
theorem FileR.re (a : FileR n0 h v bs) : FileR n0 (reFloor h) v bs := by cases h; exact a
theorem FileR.stay {p : B → Prop} (a : FileR n0 h v bs) (s : Stay p h h') (hp : ∀ q, B.val q < B.val n0 → ¬ p q) (hn : B.val n0 ≤ B.val h.next) : FileR n0 h' v bs := by
  rcases a with h1 | ⟨q, g, off, fin, cap, rfl, hf, h2, r⟩
  · exact .inl h1
  · exact .inr ⟨q, g, off, fin, cap, rfl, hf, h2, r.stay s (Nat.lt_of_lt_of_le h2 hn) (hp q h2)⟩
theorem FileR.new (a : FileR n0 h v bs) (k : Nat → List V → Bool) : newCells 1 v h k = k bs.length (bs.map bv) := by
  rcases a with ⟨rfl, id, g, off, fin, cap, rfl⟩ | ⟨q, g, off, fin, cap, rfl, hf, h2, r⟩
  · rfl
  · cases bs with
    | nil => rfl
    | cons c l =>
      show loadN h q g off fin (Nat.mul (l.length + 1) 1) (fun vs => k (l.length + 1) vs) = _
      rw [show Nat.mul (l.length + 1) 1 = ((c :: l).map bv).length by simp, loadN_row r rfl (by simp) (by simpa using hf)]; rfl
theorem FileR.isl (a : FileR n0 h v bs) : ∃ id g off fin cap, v = .l id g off bs.length fin cap := by
  rcases a with ⟨rfl, id, g, off, fin, cap, rfl⟩ | ⟨q, g, off, fin, cap, rfl, _⟩
  · exact ⟨_, _, _, _, _, rfl⟩
  · exact ⟨_, _, _, _, _, rfl⟩
/-- a file that was laid anew -/
def FileX (h : H) (v : V) (bs : List UInt8) : Prop :=
  (bs = [] ∧ ∃ id, v = .l id 0 0 0 0 (some 0)) ∨ (bs ≠ [] ∧ ∃ q, v = .l q 0 0 bs.length bs.length none ∧ OwnX h q 5 (bs.map bv))
/-- in which block its bytes lie -/
def qOf (v : V) (q : B) : Prop := ∃ n fin, v = .l q 0 0 n fin none
theorem FileX.un {h0 : H} (o : FileX h' v bs) (e : h'.floor = h0.next) (hf : B.val h0.floor ≤ B.val h0.next) : FileX (unFloor h0 h') v bs :=
  o.imp (fun h => h) fun ⟨hn, q, hq, o⟩ => ⟨hn, q, hq, o.un e hf⟩
theorem FileX.stay {p : B → Prop} (a : FileX h v bs) (s : Stay p h h') (hp : ∀ q, qOf v q → ¬ p q) : FileX h' v bs := by
  rcases a with h1 | ⟨hn, q, rfl, o⟩
  · exact .inl h1
  · exact .inr ⟨hn, q, rfl, o.stay s (hp q ⟨_, _, rfl⟩)⟩
theorem FileX.lt {q : B} (a : FileX h v bs) (hq : qOf v q) : B.val q < B.val h.next := by
  obtain ⟨n, fin, e⟩ := hq
  rcases a with ⟨_, id, rfl⟩ | ⟨_, q', rfl, o⟩
  · cases e
  · cases e; exact o.lt
theorem cl_file (a : FileR n0 h v bs) (hn0 : B.val n0 ≤ B.val h.next) (hl : bs.length ≤ 1000000) (hf : B.val h.floor ≤ B.val h.next) : FnOk Tryz.prog 121 [v] h fun y h' => FileX h' y bs ∧ Stay nowhere h h' ∧ ∀ q, isOf y q → B.val h.next ≤ B.val q := by
  obtain ⟨id, g, off, fin, cap, hv⟩ := a.isl
  refine fn_go c121 (by intro hb; cases hb) (by simp) (by simp) fun Q hQ => ?_
  simp only [slotsF, Nat.reduceAdd]
  rw [hv]
  repeat' (first
    | refine St.h ?_
    | simp (disch := first | omega | (simp only [lnv]; omega)) only [wlk, mwk, ↓get_put', ↓reduceIte, seval]
    | (with_reducible (first | apply cd_split | apply gd_split)) <;> (intro hc; (try simp only [hcn] at hc); (try simp only [hc]); (try simp only [hcl] at hc); try omega))
  refine AL.own (by simp) hf fun h1 s1 n1 o1 => ?_
  have a1 := a.stay s1 (fun _ _ e => e) hn0
  rw [hv] at a1
  have hf1 := s1.fl hf
  repeat' (first
    | refine St.h ?_
    | simp (disch := first | omega | (simp only [lnv]; omega)) only [wlk, mwk, ↓get_put', ↓reduceIte, seval]
    | (with_reducible (first | apply cd_split | apply gd_split)) <;> (intro hc; (try simp only [hcn] at hc); (try simp only [hc]); (try simp only [hcl] at hc); try omega))
  cases hb : bs with
  | nil =>
    subst hb
    refine AP.empty0 (fun k => a1.new k) ?_
    repeat' (first
      | refine St.h ?_
      | simp (disch := first | omega | (simp only [lnv]; omega)) only [wlk, mwk, ↓get_put', ↓reduceIte, seval]
      | (with_reducible (first | apply cd_split | apply gd_split)) <;> (intro hc; (try simp only [hcn] at hc); (try simp only [hc]); (try simp only [hcl] at hc); try omega))
    subst hQ
    exact ⟨.inl ⟨rfl, _, rfl⟩, s1, fun q ⟨_, _, _, _, _, e⟩ => by cases e; exact Nat.le_refl _⟩
  | cons c l =>
    rw [← hb]
    have hb1 : 1 ≤ bs.length := by rw [hb]; simp
    refine AP.empty (fun k => a1.new k) hf1 (by simp) hb1 (by omega) (by simp; omega) fun h2 s2 n2 o2 => ?_
    repeat' (first
      | refine St.h ?_
      | simp (disch := first | omega | (simp only [lnv]; omega)) only [wlk, mwk, ↓get_put', ↓reduceIte, seval]
      | (with_reducible (first | apply cd_split | apply gd_split)) <;> (intro hc; (try simp only [hcn] at hc); (try simp only [hc]); (try simp only [hcl] at hc); try omega))
    subst hQ
    refine ⟨.inr ⟨by intro e; rw [e] at hb1; simp at hb1, h1.next, ?_, o2⟩, s1.trans s2, fun q ⟨_, _, _, _, _, e⟩ => by cases e; omega⟩
    first | rfl | rw [Nat.mul_one]
theorem cl_nil : FnOk Tryz.prog 121 [.l0] h fun y h' => y = .l0 ∧ h' = h := by
  refine fn_go c121 (by intro hb; cases hb) (by simp) (by simp) fun Q hQ => ?_
  simp only [slotsF, Nat.reduceAdd]
  repeat' (first
    | refine St.h ?_
    | simp (disch := first | omega | (simp only [lnv]; omega)) only [wlk, mwk, ↓get_put', ↓reduceIte, seval]
    | (with_reducible (first | apply cd_split | apply gd_split)) <;> (intro hc; (try simp only [hcn] at hc); (try simp only [hc]); (try simp only [hcl] at hc); try omega))
  subst hQ
  exact ⟨rfl, rfl⟩
theorem actC_len (a : AC) : (actC a).length = 6 := rfl
theorem actC_one (a : AC) : allOne (actC a) = true := rfl
theorem cl_acts {U : List AC} (a : Ss 6 actC h v U) (hn : v ≠ .l0 → U ≠ []) (hU : U.length ≤ 10000) (hf : B.val h.floor ≤ B.val h.next) : FnOk Tryz.prog 120 [v] h fun y h' => Stay nowhere h h' ∧ ((U = [] ∧ y = .l0) ∨ (U ≠ [] ∧ ∃ q, y = .l q 0 0 U.length (U.length * 6) none ∧ OwnX h' q 201 (U.flatMap actC) ∧ B.val h.next ≤ B.val q)) := by
  refine fn_go c120 (by intro hb; cases hb) (by simp) (by simp) fun Q hQ => ?_
  simp only [slotsF, Nat.reduceAdd]
  by_cases hv : v = .l0
  · subst hv
    have : U = [] := by
      rcases a with ⟨_, e⟩ | ⟨id, g, off, fin, cap, e, _⟩
      · exact e
      · cases e
    subst this
    repeat' (first
      | refine St.h ?_
      | simp (disch := first | omega | (simp only [lnv]; omega)) only [wlk, mwk, ↓get_put', ↓reduceIte, seval]
      | (with_reducible (first | apply cd_split | apply gd_split)) <;> (intro hc; (try simp only [hcn] at hc); (try simp only [hc]); (try simp only [hcl] at hc); try omega))
    subst hQ
    exact ⟨Stay.refl _ _, .inl ⟨rfl, rfl⟩⟩
  · have hU0 := hn hv
    obtain ⟨id, g, off, fin, cap, hvv⟩ : ∃ id g off fin cap, v = .l id g off U.length fin cap := by
      rcases a with ⟨e, _⟩ | ⟨id, g, off, fin, cap, e, _⟩
      · exact absurd e hv
      · exact ⟨_, _, _, _, _, e⟩
    rw [hvv]
    repeat' (first
      | refine St.h ?_
      | simp (disch := first | omega | (simp only [lnv]; omega)) only [wlk, mwk, ↓get_put', ↓reduceIte, seval]
      | (with_reducible (first | apply cd_split | apply gd_split)) <;> (intro hc; (try simp only [hcn] at hc); (try simp only [hc]); (try simp only [hcl] at hc); try omega))
    refine AL.own (by simp) hf fun h1 s1 n1 o1 => ?_
    have a1 := a.grow s1
    rw [hvv] at a1
    have hf1 := s1.fl hf
    repeat' (first
      | refine St.h ?_
      | simp (disch := first | omega | (simp only [lnv]; omega)) only [wlk, mwk, ↓get_put', ↓reduceIte, seval]
      | (with_reducible (first | apply cd_split | apply gd_split)) <;> (intro hc; (try simp only [hcn] at hc); (try simp only [hc]); (try simp only [hcl] at hc); try omega))
    have hlen := fm_len actC_len U
    have hU1 : 1 ≤ U.length := by
      cases U with
      | nil => exact absurd rfl hU0
      | cons a l => simp
    refine AP.empty (fun k => new_ss a1 actC_len (by omega) k) hf1 hlen hU1 (by omega) (by rw [hlen]; omega) fun h2 s2 n2 o2 => ?_
    repeat' (first
      | refine St.h ?_
      | simp (disch := first | omega | (simp only [lnv]; omega)) only [wlk, mwk, ↓get_put', ↓reduceIte, seval]
      | (with_reducible (first | apply cd_split | apply gd_split)) <;> (intro hc; (try simp only [hcn] at hc); (try simp only [hc]); (try simp only [hcl] at hc); try omega))
    subst hQ
    exact ⟨s1.trans s2, .inr ⟨hU0, h1.next, rfl, o2, by omega⟩⟩
theorem ss_re' {α : Type} {n : Nat} {c : α → List V} {L : List α} (a : Ss n c h v L) : Ss n c (reFloor h) v L := by cases h; exact a
/-- what a copy's loose acts are -/
def LooN (h' : H) (v : V) (U : List AC) (n0 : B) : Prop := (U = [] ∧ v = .l0) ∨ (U ≠ [] ∧ ∃ q, v = .l q 0 0 U.length (U.length * 6) none ∧ OwnX h' q 201 (U.flatMap actC) ∧ B.val n0 ≤ B.val q)
theorem LooN.un {h0 : H} {n0 : B} {U : List AC} (o : LooN h' v U n0) (e : h'.floor = h0.next) (hf : B.val h0.floor ≤ B.val h0.next) : LooN (unFloor h0 h') v U n0 :=
  o.imp (fun h => h) fun ⟨hn, q, hq, o, l⟩ => ⟨hn, q, hq, o.un e hf, l⟩
theorem LooN.stay {n0 : B} {p : B → Prop} {U : List AC} (o : LooN h v U n0) (s : Stay p h h') (hp : ∀ q, isOf v q → ¬ p q) : LooN h' v U n0 :=
  o.imp (fun h => h) fun ⟨hn, q, hq, o, l⟩ => ⟨hn, q, hq, o.stay s (hp q (by rw [hq]; exact ⟨_, _, _, _, _, rfl⟩)), l⟩
theorem LooN.sl {n0 : B} {U : List AC} (o : LooN h v U n0) : IsSl v := o.elim (fun e => .inl e.2) fun ⟨_, q, e, _⟩ => .inr ⟨_, _, _, _, _, _, e⟩
theorem IsSl.fp {P : Program} {h : H} {N : Nx} {off : Nat} {v : V} {ps : List Pt} {t : F} {z : List V} {e : Option (Nat × Nat)} (a : IsSl v) (hz : off + 1 ≤ z.length) : FP P off 1 v ps t z e h N = FL P ps t (z.take off ++ (v :: z.drop (off + 1))) e h N := by
  rcases a with rfl | ⟨id, g, o, len, fin, cap, rfl⟩
  · rw [fp_l0, if_pos hz]
  · rw [fp_l, if_pos hz]
theorem store_ownX {j fin : Nat} {y : V} (o : OwnX h id el xs) (hj : j < fin) (hfit : j < 2 ^ 37) (h1 : oneV y = true) : ∃ h', (∀ k, Ev.store h id 0 j fin [y] k = k h') ∧ OwnX h' id el (xs.set j y) ∧ Stay (fun i => i = id) h h' := by
  obtain ⟨⟨blk, a1, a2, a3, a4, a8, a9, a7⟩, a5, a6⟩ := o
  obtain ⟨next, floor, heap⟩ := h
  obtain ⟨cur, min, sz, cells, bel, fr⟩ := blk
  simp only at a2 a3 a4 a7 a8 a9
  subst a2; subst a3; subst a4; subst a8; subst a9
  obtain ⟨tr, t1, t2, t3⟩ := setList_fine [y] j cells (by simp; omega)
  obtain ⟨hp, s1, s2, s3⟩ := setK_ok id (⟨0, 0, xs.length, tr, bel, 0⟩ : Blk) heap
  have e1 : B.geB floor id = true := by cases floor <;> first | rfl | (show Nat.ble _ _ = true; rw [Nat.ble_eq]; exact a5)
  have e2 : Nat.ble (Nat.add j 1) fin = true := by rw [Nat.ble_eq]; exact hj
  have e3 : allOne [y] = true := by show Bool.rec false true (oneV y) = true; rw [h1]
  have e4 : frOk 0 j = true := rfl
  have e5 : Nat.beq 0 0 = true := rfl
  have e6 : Nat.ble 0 0 = true := rfl
  have a1' : heap.get id = some ⟨0, 0, xs.length, cells, bel, 0⟩ := a1
  refine ⟨⟨next, floor, hp⟩, fun k => ?_, ⟨⟨_, s2, rfl, rfl, rfl, rfl, by rw [List.length_set], fun i z hz => ?_⟩, a5, a6⟩, ⟨rfl, Nat.le_refl _, fun i _ hi => s3 i hi⟩⟩
  · simp only [Ev.store, hK_mk, a1', optK_some, blkK_mk, List.length_singleton, e5, e6, e1, e2, e3, e4, ifK_true]
    rw [t1, s1]
  · show tr.getN i = some z
    rw [List.getElem?_set] at hz
    by_cases hij : j = i
    · subst hij
      rw [if_pos rfl] at hz
      split at hz
      · have := t2 0 y rfl
        rw [Nat.add_zero] at this
        rw [this]; exact hz
      · cases hz
    · rw [if_neg hij] at hz
      rw [t3 i (by simp; omega)]
      exact a7 i z hz
theorem ST.ownX {P : Program} {j fin : Nat} {x y : V} (o : OwnX h id el xs) (hc : cells x = [y]) (h1 : oneV y = true) (hj : j < fin) (hfit : j < 2 ^ 37) (k : ∀ h', OwnX h' id el (xs.set j y) → Stay (fun i => i = id) h h' → N.go P (.tu []) h') : ST P 1 (.p id 0 j fin) x h N := by
  obtain ⟨h', a1, a2, a3⟩ := store_ownX o hj hfit h1
  refine hm_of (v := .tu []) (h' := h') (fun k => ?_) (k h' a2 a3)
  show ifK (Nat.beq (cells x).length 1) (fun _ => Ev.store h id 0 j fin (cells x) fun h => k (.tu []) h) = _
  rw [hc]
  show Ev.store h id 0 j fin [y] (fun h => k (.tu []) h) = _
  rw [a1]
/-- a shelf that is read; it was there ahead of n0 -/
structure SrcR (n0 : B) (h : H) (s : B) (mp lo : V) (X : Cs) (U : List AC) (rm : Int) : Prop where
  row : Row h s 0 0 [.i .i64 rm, mp, lo]
  map : (mp = .m0 ∧ X = []) ∨ ∃ id, mp = .m id ∧ MapF h id (vCs X) ∧ B.val id < B.val n0
  acts : Ss 6 actC h lo U
  nonil : lo ≠ .l0 → U ≠ []
  fil : ∀ z ∈ X, FileR n0 h z.2.1 z.2.2
  lt : B.val s < B.val n0
  lol : ∀ q, isOf lo q → B.val q < B.val n0
theorem _root_.Go.Ev.MapF.b {h : H} {id : B} {E : En} (m : MapF h id E) (hf : B.val h.floor ≤ B.val h.next) : MapB h id E := ⟨m.blk, Nat.lt_of_lt_of_le m.lo hf, m.nod⟩
theorem len_Cs (X : Cs) : (vCs X).length = X.length := by unfold vCs; rw [List.length_map]
theorem SrcR.ln (S : SrcR n0 h s mp lo X U rm) (hf : B.val h.floor ≤ B.val h.next) : MLn Tryz.prog mp (reFloor h) N = N.go Tryz.prog (.i .i64 (X.length : Int)) (reFloor h) := by
  rcases S.map with ⟨rfl, rfl⟩ | ⟨id, rfl, m, _⟩
  · exact mln_nil
  · rw [(m.b hf).re.ln, len_Cs]
theorem SrcR.stay {p : B → Prop} (S : SrcR n0 h s mp lo X U rm) (t : Stay p h h') (hp : ∀ q, B.val q < B.val n0 → ¬ p q) (hn : B.val n0 ≤ B.val h.next) : SrcR n0 h' s mp lo X U rm :=
  ⟨S.row.stay t (Nat.lt_of_lt_of_le S.lt hn) (hp s S.lt), S.map.imp_right fun ⟨i2, e, m, l⟩ => ⟨i2, e, by
    obtain ⟨b, h1, h2⟩ := m.blk
    exact ⟨⟨b, (t.get i2 (Nat.lt_of_lt_of_le l hn) (hp i2 l)).trans h1, h2⟩, by rw [t.floor]; exact m.lo, m.nod⟩, l⟩, S.acts.stay t fun q hq => hp q (S.lol q hq), S.nonil, fun f hf => (S.fil f hf).stay t hp hn, S.lt, S.lol⟩
theorem SrcR.grow (S : SrcR n0 h s mp lo X U rm) (t : Stay nowhere h h') (hn : B.val n0 ≤ B.val h.next) : SrcR n0 h' s mp lo X U rm := S.stay t (fun _ _ e => e) hn
theorem mapC_un {h0 : H} {E : En} (o : MapC h' id E) (e : h'.floor = h0.next) (hf : B.val h0.floor ≤ B.val h0.next) : MapC (unFloor h0 h') id E := by
  obtain ⟨o1, o2, o3, o4⟩ := o
  rw [e] at o2
  cases h0; cases h'
  exact ⟨o1, Nat.le_trans hf o2, o3, o4⟩
theorem fp_m {P : Program} {ps : List Pt} {t : F} {z : List V} {e : Option (Nat × Nat)} {off : Nat} : FP P off 1 (.m id) ps t z e h N = if off + 1 ≤ z.length then FL P ps t (z.take off ++ (.m id :: z.drop (off + 1))) e h N else FPJ P off 1 (.m id) ps t z e h N := fp_at (cs := [.m id]) rfl rfl rfl
theorem AL.ownX {P : Program} {cs : List V} {mk : B → V} (hl : cs.length < 2 ^ 38) (hf : B.val h.floor ≤ B.val h.next)
    (k : ∀ h', Stay nowhere h h' → B.val h'.next = B.val h.next + 1 → OwnX h' h.next el cs → N.go P (mk h.next) h') : AL P el cs mk h N := by
  obtain ⟨h', a1, a2, a3, blk, b1, b2, b3, b4, b5, b6, b7⟩ := alloc_new el cs h hl
  exact hm_of (fun k => a1 _) (k h' a2 a3 ⟨⟨blk, b1, b3, b2, b6, b5, b4, b7⟩, by rw [a2.floor]; exact hf, by omega⟩)
/-- files in blocks of their own -/
def apa (a b : List UInt8 × V × List UInt8) : Prop := ∀ q, qOf a.2.1 q → qOf b.2.1 q → False
/-- a copy, all of it laid anew, from n0 on -/
structure CopyX (n0 : B) (g : H) (c cm : B) (lo' : V) (Z : Cs) (U : List AC) (rm : Int) : Prop where
  own : OwnX g c 115 [.i .i64 rm, .m cm, lo']
  loo : LooN g lo' U n0
  map : MapC g cm (vCs Z)
  fil : ∀ z ∈ Z, FileX g z.2.1 z.2.2
  fp : Z.Pairwise apa
  cc : c ≠ cm
  ls : ¬ isOf lo' c
  lm : ¬ isOf lo' cm
  fs : ∀ z ∈ Z, ∀ q, qOf z.2.1 q → B.val n0 ≤ B.val q ∧ q ≠ c ∧ q ≠ cm ∧ ¬ isOf lo' q
  nc : B.val n0 ≤ B.val c
  nm : B.val n0 ≤ B.val cm
def copyK (n0 : B) (X : Cs) (U : List AC) (rm : Int) (y : V) (g : H) : Prop := ∃ c cm lo' Z, y = .p c 0 0 3 ∧ CopyX n0 g c cm lo' Z U rm ∧ (bCs Z).Perm (bCs X)
theorem keys_nam (X : Cs) : keysE (vCs X) = X.map (·.1) := by
  unfold keysE vCs; rw [List.map_map]; rfl
theorem nam_inj : ∀ {X : Cs}, (X.map (·.1)).Nodup → ∀ {x y : List UInt8 × V × List UInt8}, x ∈ X → y ∈ X → x.1 = y.1 → x = y
  | [], _, x, y, hx, _, _ => by cases hx
  | z :: X, hn, x, y, hx, hy, e => by
    have hn : (z.1 :: X.map (·.1)).Nodup := hn
    rw [List.nodup_cons] at hn
    have mem : ∀ {w : List UInt8 × V × List UInt8}, w ∈ X → w.1 ∈ X.map (·.1) := fun {w} hw => List.mem_map.2 ⟨w, hw, rfl⟩
    rcases List.mem_cons.1 hx with h1 | h1 <;> rcases List.mem_cons.1 hy with h2 | h2
    · rw [h1, h2]
    · exact absurd (mem h2) (by rw [← e, h1]; exact hn.1)
    · exact absurd (mem h1) (by rw [e, h2]; exact hn.1)
    · exact nam_inj hn.2 h1 h2 e
theorem nod_of_nam {X : Cs} (h : (X.map (·.1)).Nodup) : X.Nodup := by
  induction X with
  | nil => exact .nil
  | cons z X ih =>
    have h : (z.1 :: X.map (·.1)).Nodup := h
    rw [List.nodup_cons] at h
    exact List.nodup_cons.2 ⟨fun e => h.1 (List.mem_map.2 ⟨z, e, rfl⟩), ih h.2⟩
theorem all_perm {X Y : Cs} (hn : (X.map (·.1)).Nodup) (hy : ∀ y ∈ Y, y ∈ X) (hv : (keysE (vCs Y)).Nodup) (ha : ∀ p ∈ vCs X, p ∈ vCs Y) : Y.Perm X := by
  haveI : DecidableEq (List UInt8 × V × List UInt8) := fun a b => Classical.propDecidable _
  rw [keys_nam] at hv
  refine (List.perm_ext_iff_of_nodup (nod_of_nam hv) (nod_of_nam hn)).2 fun x => ⟨hy x, fun hx => ?_⟩
  obtain ⟨y, h1, h2⟩ := List.mem_map.1 (ha (x.1, x.2.1) (List.mem_map.2 ⟨x, hx, rfl⟩))
  have : y = x := nam_inj hn (hy y h1) hx (Prod.mk.inj h2).1
  rw [← this]; exact h1
theorem acts_same {L : List AC} {i : Nat} (hi : i < L.length) : (L.flatMap actC).set (i * 6 + 4) .l0 = L.flatMap actC := by
  have h1 := fm_at (c := actC) actC_len hi
  have h2 := fm_len (c := actC) actC_len L
  refine List.ext_getElem? fun j => ?_
  rw [List.getElem?_set]
  by_cases hj : i * 6 + 4 = j
  · rw [if_pos hj, if_pos (by rw [h2]; omega)]
    have h3 : (((L.flatMap actC).drop (i * 6)).take 6)[4]? = some V.l0 := by rw [h1]; rfl
    rw [List.getElem?_take_of_lt (by omega), List.getElem?_drop, hj] at h3
    exact h3.symm
  · rw [if_neg hj]
theorem copy_tail {t : F} {g : H} {c cm : B} {lo' : V} {Z : Cs} {Q : V → H → Prop} (hQ : Q = copyK n0 X U rm) (f3 : get 3 t = .p c 0 0 3) (C : CopyX n0 g c cm lo' Z U rm) (hper : (bCs Z).Perm (bCs X)) (hU : U.length ≤ 10000) (hf : B.val g.floor ≤ B.val g.next) : Ok Tryz.prog 64 s50_14 t g (FnK [Rs.tmp (slOf 2)] Q) := by
  rcases C.loo with ⟨hU0, hlo⟩ | ⟨hU0, q, hlo, oq, nq⟩
  · subst hlo
    repeat' (first
      | refine St.h ?_
      | simp (disch := first | omega | (simp only [lnv]; omega)) only [wlk, mwk, ↓get_put', ↓reduceIte, seval, f3, C.own.own.row.l1]
      | (with_reducible (first | apply cd_split | apply gd_split)) <;> (intro hc; (try simp only [hcn] at hc); (try simp only [hc]); (try simp only [hcl] at hc); try omega))
    refine Ok.lp (fun m t g1 => m = 0 ∧ g = g1 ∧ get 3 t = .p c 0 0 3 ∧ get 46 t = .i .i64 0 ∧ get 47 t = .i .i64 0) 0 ?_ ?_
    · simp (disch := first | omega | (simp only [lnv]; omega)) only [wlk, mwk, ↓get_put', ↓reduceIte, seval, f3]
    rintro I hI m t g1 ⟨rfl, rfl, f3, f46, f47⟩
    repeat' (first
      | refine St.h ?_
      | simp (disch := first | omega | (simp only [lnv]; omega)) only [wlk, mwk, ↓get_put', ↓reduceIte, seval, f3, f46, f47]
      | (with_reducible (first | apply cd_split | apply gd_split)) <;> (intro hc; (try simp only [hcn] at hc); (try simp only [hc]); (try simp only [hcl] at hc); try omega))
    subst hQ
    exact ⟨c, cm, .l0, Z, rfl, C, hper⟩
  subst hlo
  have hns : ∀ {id : B}, isOf (.l q 0 0 U.length (U.length * 6) none) id → id = q := fun ⟨_, _, _, _, _, e⟩ => by cases e; rfl
  have isq : isOf (.l q 0 0 U.length (U.length * 6) none) q := ⟨_, _, _, _, _, rfl⟩
  have qc : q ≠ c := fun e => C.ls (by rw [← e]; exact isq)
  have qcm : q ≠ cm := fun e => C.lm (by rw [← e]; exact isq)
  clear oq
  repeat' (first
    | refine St.h ?_
    | simp (disch := first | omega | (simp only [lnv]; omega)) only [wlk, mwk, ↓get_put', ↓reduceIte, seval, f3, C.own.own.row.l1]
    | (with_reducible (first | apply cd_split | apply gd_split)) <;> (intro hc; (try simp only [hcn] at hc); (try simp only [hc]); (try simp only [hcl] at hc); try omega))
  refine Ok.lp (fun mm t g1 => ∃ (i : Nat), mm = U.length - i ∧ i ≤ U.length ∧ get 3 t = .p c 0 0 3 ∧ get 45 t = .l q 0 0 U.length (U.length * 6) none ∧ get 46 t = .i .i64 (U.length : Int) ∧ get 47 t = .i .i64 (i : Int) ∧
    CopyX n0 g1 c cm (.l q 0 0 U.length (U.length * 6) none) Z U rm ∧ B.val g1.floor ≤ B.val g1.next) U.length ?_ ?_
  · simp (disch := first | omega | (simp only [lnv]; omega)) only [wlk, mwk, ↓get_put', ↓reduceIte, seval, f3]
    exact ⟨0, by omega, by omega, trivial, trivial, trivial, rfl, C, hf⟩
  clear C hf f3
  rintro I hI mm t g1 ⟨i, rfl, hi, f3, f45, f46, f47, C, hf⟩
  by_cases hil : i < U.length
  case neg =>
    obtain rfl : i = U.length := by omega
    repeat' (first
      | refine St.h ?_
      | simp (disch := first | omega | (simp only [lnv]; omega)) only [wlk, mwk, ↓get_put', ↓reduceIte, seval, f3, f45, f46, f47]
      | (with_reducible (first | apply cd_split | apply gd_split)) <;> (intro hc; (try simp only [hcn] at hc); (try simp only [hc]); (try simp only [hcl] at hc); try omega))
    subst hQ
    exact ⟨c, cm, _, Z, rfl, C, hper⟩
  obtain ⟨q', oq, hq'⟩ : ∃ q', OwnX g1 q' 201 (U.flatMap actC) ∧ q' = q := by
    rcases C.loo with ⟨e, _⟩ | ⟨_, q', e, o, _⟩
    · exact absurd e hU0
    · exact ⟨q', o, by cases e; rfl⟩
  subst hq'
  have hfl := fm_len actC_len U
  have hSs : Ss 6 actC g1 (.l q' 0 0 U.length (U.length * 6) none) U := Ss.lit oq.own rfl actC_len rfl (Nat.le_refl _)
  have hla : ∀ N : Nx, LN Tryz.prog q' 0 (i * 6) (U.length * 6) 6 g1 N = N.go Tryz.prog (.a (actC (U.getD i default))) g1 := fun N => by
    have := Ss.ldA (P := Tryz.prog) (N := N) hSs actC_len (by omega) (i := i) hil
    have e0 : loff (.l q' 0 0 U.length (U.length * 6) none) + i * 6 = i * 6 := Nat.zero_add _
    rw [e0] at this
    exact this
  generalize hact : U.getD i default = a at hla
  have ha6 : cells (.a (actC a)) = actC a := rfl
  repeat' (first
    | refine St.h ?_
    | simp (disch := first | omega | (simp only [lnv]; omega)) only [wlk, mwk, ↓get_put', ↓reduceIte, seval, f3, f45, f46, f47, Int.toNat_natCast, hla]
    | (with_reducible (first | apply cd_split | apply gd_split)) <;> (intro hc; (try simp only [hcn] at hc); (try simp only [hc]); (try simp only [hcl] at hc); try omega))
  refine AL.own (by simp) hf fun g2 s2 n2 o2 => ?_
  have hf2 := s2.fl hf
  repeat' (first
    | refine St.h ?_
    | simp (disch := first | omega | (simp only [lnv]; omega)) only [wlk, mwk, ↓get_put', ↓reduceIte, seval, f3, f45, f46, f47]
    | (with_reducible (first | apply cd_split | apply gd_split)) <;> (intro hc; (try simp only [hcn] at hc); (try simp only [hc]); (try simp only [hcl] at hc); try omega))
  refine ST.ownAll o2 ha6 rfl (actC_one a) (by show 6 ≤ 6; omega) (by show 6 < 2 ^ 37; decide) fun g3 o3 s3 => ?_
  have s23 : Stay nowhere g1 g3 := s2.past' s3 fun p hp => by rw [hp]; exact Nat.le_refl _
  have hf3 := s23.fl hf
  have hc3 := C.own.stay s23 fun e => e
  have r4 : ∀ N : Nx, L1 Tryz.prog g1.next 0 4 6 g3 N = N.go Tryz.prog .l0 g3 := fun N => by
    have := o3.row.l1 (P := Tryz.prog) (N := N) (off := 4) (fin := 6) (by show 4 < 6; omega) (by omega)
    exact this
  repeat' (first
    | refine St.h ?_
    | simp (disch := first | omega | (simp only [lnv]; omega)) only [wlk, mwk, ↓get_put', ↓reduceIte, seval, f3, f45, f46, f47, hc3.own.row.l1, r4]
    | (with_reducible (first | apply cd_split | apply gd_split)) <;> (intro hc; (try simp only [hcn] at hc); (try simp only [hc]); (try simp only [hcl] at hc); try omega))
  refine CL.mkU cl_nil ?_
  rintro y g4' ⟨rfl, rfl⟩
  have eu : unFloor g3 (reFloor g3) = g3 := by cases g3; rfl
  rw [eu]
  have oq3 := oq.stay s23 fun e => e
  repeat' (first
    | refine St.h ?_
    | simp (disch := first | omega | (simp only [lnv]; omega)) only [wlk, mwk, ↓get_put', ↓reduceIte, seval, f3, f45, f46, f47, Int.toNat_natCast]
    | (with_reducible (first | apply cd_split | apply gd_split)) <;> (intro hc; (try simp only [hcn] at hc); (try simp only [hc]); (try simp only [hcl] at hc); try omega))
  refine ST.ownX oq3 rfl rfl (by omega) (by omega) fun g5 oq5 s5 => ?_
  rw [acts_same hil] at oq5
  have hf5 := s5.fl hf3
  have sN : ∀ {p : B}, p ≠ q' → ¬ p = q' := fun h => h
  have C5 : CopyX n0 g5 c cm (.l q' 0 0 U.length (U.length * 6) none) Z U rm := by
    refine ⟨hc3.stay s5 fun e => qc e.symm, .inr ⟨hU0, q', rfl, oq5, nq⟩, (C.map.stay s23 fun e => e).stay s5 fun e => qcm e.symm, fun z hz => ((C.fil z hz).stay s23 fun _ _ e => e).stay s5 fun p hp e => ?_, C.fp, C.cc, C.ls, C.lm, C.fs, C.nc, C.nm⟩
    exact (C.fs z hz p hp).2.2.2 (by rw [e]; exact isq)
  repeat' (first
    | refine St.h ?_
    | simp (disch := first | omega | (simp only [lnv]; omega)) only [wlk, mwk, ↓get_put', ↓reduceIte, seval, f3, f45, f46, f47]
    | (with_reducible (first | apply cd_split | apply gd_split)) <;> (intro hc; (try simp only [hcn] at hc); (try simp only [hc]); (try simp only [hcl] at hc); try omega))
  refine lp_next hI (U.length - (i + 1)) (by omega) ⟨i + 1, rfl, by omega, ?_, ?_, ?_, ?_, C5, hf5⟩
  · simp (disch := first | omega | (simp only [lnv]; omega)) only [wlk, mwk, ↓get_put', ↓reduceIte, seval, f3]
  · simp (disch := first | omega | (simp only [lnv]; omega)) only [wlk, mwk, ↓get_put', ↓reduceIte, seval, f45]
  · simp (disch := first | omega | (simp only [lnv]; omega)) only [wlk, mwk, ↓get_put', ↓reduceIte, seval, f46]
  · simp (disch := first | omega | (simp only [lnv]; omega)) only [wlk, mwk, ↓get_put', ↓reduceIte, seval]; rfl
theorem copy_n (S : SrcR h.next h s mp lo X U rm) (hX : X.length ≤ 1000) (hU : U.length ≤ 10000) (hl : ∀ z ∈ X, z.2.2.length ≤ 1000000) (hf : B.val h.floor ≤ B.val h.next) :
    FnN Tryz.prog 50 [.p s 0 0 3] h (copyK h.next X U rm) := by
  refine fn_so cs50 (by decide) (by simp) (by simp) fun Q hQ => ?_
  simp only [slotsF, Nat.reduceAdd]
  refine OkS.seq (OkS.cc ?_)
  repeat' (first
    | refine St.h ?_
    | simp (disch := first | omega | (simp only [lnv]; omega)) only [wlk, mwk, ↓get_put', ↓reduceIte, seval, sqs_n]
    | (with_reducible (first | apply cd_split | apply gd_split)) <;> (intro hc; (try simp only [hcn] at hc); (try simp only [hc]); (try simp only [hcl] at hc); try omega))
  refine OkS.seq (OkS.cc ?_)
  repeat' (first
    | refine St.h ?_
    | simp (disch := first | omega | (simp only [lnv]; omega)) only [wlk, mwk, ↓get_put', ↓reduceIte, seval, sqs_n, S.row.l1, S.ln hf]
    | (with_reducible (first | apply cd_split | apply gd_split)) <;> (intro hc; (try simp only [hcn] at hc); (try simp only [hc]); (try simp only [hcl] at hc); try omega))
  rw [or_makeMap1 (kd := .i64) (n := (X.length : Int)) (by simp (disch := first | omega | (simp only [lnv]; omega)) only [wlk, mwk, ↓get_put', ↓reduceIte, seval])]
  refine MN.mk (re_fl _) fun h1' m1 s1 n1 => ?_
  have fl1 : h1'.floor = h.next := by rw [s1.floor, reFloor_floor]
  have m1 := mapC_un m1 fl1 hf
  have s1 := s1.unfloor
  have n1 : B.val (unFloor h h1').next = B.val h.next + 1 := by rw [unFloor_mk]; rw [reFloor_next] at n1; exact n1
  rw [reFloor_next] at m1 ⊢
  rw [go_u]
  generalize unFloor h h1' = h1 at m1 s1 n1 ⊢
  clear fl1
  have hf1 := s1.fl hf
  have S1 := S.grow s1 (Nat.le_refl _)
  repeat' (first
    | refine St.h ?_
    | simp (disch := first | omega | (simp only [lnv]; omega)) only [wlk, mwk, ↓get_put', ↓reduceIte, seval, sqs_n, S1.row.l1]
    | (with_reducible (first | apply cd_split | apply gd_split)) <;> (intro hc; (try simp only [hcn] at hc); (try simp only [hc]); (try simp only [hcl] at hc); try omega))
  refine CL.mkU (cl_acts (ss_re' S1.acts) S.nonil hU (re_fl _)) ?_
  rintro lo1 h2' ⟨s2, hlo⟩
  have fl2 : h2'.floor = h1.next := by rw [s2.floor, reFloor_floor]
  have hlo := LooN.un (n0 := h1.next) (by rw [reFloor_next] at hlo; exact hlo) fl2 hf1
  have s2 := s2.unfloor
  generalize unFloor h1 h2' = h2 at hlo s2 ⊢
  clear fl2
  have hf2 := s2.fl hf1
  have hlsl := hlo.sl
  repeat' (first
    | refine St.h ?_
    | simp (disch := first | omega | (simp only [lnv]; omega)) only [wlk, mwk, ↓get_put', ↓reduceIte, seval, sqs_n, hlsl.fp, fp_m]
    | (with_reducible (first | apply cd_split | apply gd_split)) <;> (intro hc; (try simp only [hcn] at hc); (try simp only [hc]); (try simp only [hcl] at hc); try omega))
  refine AL.ownX (by simp) hf2 fun h3 s3 n3 oc => ?_
  repeat' (first
    | refine St.h ?_
    | simp (disch := first | omega | (simp only [lnv]; omega)) only [wlk, mwk, ↓get_put', ↓reduceIte, seval, sqs_n]
    | (with_reducible (first | apply cd_split | apply gd_split)) <;> (intro hc; (try simp only [hcn] at hc); (try simp only [hc]); (try simp only [hcl] at hc); try omega))
  have hn1 : B.val h.next ≤ B.val h1.next := by omega
  have hn2 : B.val h.next ≤ B.val h2.next := Nat.le_trans hn1 s2.next
  have hn3 : B.val h.next ≤ B.val h3.next := by omega
  have S3 := (S1.grow s2 hn1).grow s3 hn2
  have m3 := (m1.stay s2 fun e => e).stay s3 fun e => e
  have hlo3 : LooN h3 lo1 U h.next := by
    refine LooN.stay (h := h2) ?_ s3 fun _ _ e => e
    exact hlo.imp (fun e => e) fun ⟨e1, q, e2, e3, e4⟩ => ⟨e1, q, e2, e3, by omega⟩
  have hlq : ∀ q, isOf lo1 q → B.val h1.next ≤ B.val q ∧ B.val q < B.val h2.next := fun q hq => by
    rcases hlo with ⟨_, rfl⟩ | ⟨_, q', rfl, o, l⟩
    · obtain ⟨_, _, _, _, _, e⟩ := hq; cases e
    · obtain ⟨_, _, _, _, _, e⟩ := hq; cases e; exact ⟨l, o.lt⟩
  have hls : ¬ isOf lo1 h2.next := fun e => by have := hlq _ e; omega
  have hlm : ¬ isOf lo1 h.next := fun e => by have := hlq _ e; omega
  have hcc : h2.next ≠ h.next := fun e => by rw [e] at hn2 n3; have := s2.next; have e2 : B.val h2.next = B.val h.next := by rw [e]
                                             omega
  have hf3 := s3.fl hf2
  have tail : ∀ t g Z, get 3 t = .p h2.next 0 0 3 → (bCs Z).Perm (bCs X) → MapC g h.next (vCs Z) → (∀ z ∈ Z, FileX g z.2.1 z.2.2 ∧ ∀ q, qOf z.2.1 q → B.val h3.next ≤ B.val q) → Z.Pairwise apa → Stay (fun q => q = h.next) h3 g →
      Ok Tryz.prog 64 s50_14 t g (FnK [Rs.tmp (slOf 2)] Q) := fun t g Z f3 hper mg fil fp st => by
    refine copy_tail (n0 := h.next) hQ f3 ⟨oc.stay st hcc, hlo3.stay st fun q hq e => ?_, mg, fun z hz => (fil z hz).1, fp, hcc, hls, hlm, fun z hz q hq => ?_, by omega, Nat.le_refl _⟩ hper hU (st.fl hf3)
    · exact hlm (by rw [← e]; exact hq)
    · have h9 := (fil z hz).2 q hq
      exact ⟨by omega, fun e => by rw [e] at h9; omega, fun e => by rw [e] at h9; omega, fun e => by have := hlq _ e; omega⟩
  have hst0 : Stay (fun q => q = h.next) h3 h3 := Stay.refl _ _
  rcases S3.map with ⟨hmp, hX0⟩ | ⟨idm, hmp, mF, hidm⟩
  · subst hmp
    refine OkS.seq (OkS.rng0 (wo_gen fun K hK => ?_))
    dsimp only [r50_0]
    simp (disch := first | omega | (simp only [lnv]; omega)) only [wlk, mwk, ↓get_put', ↓reduceIte, seval, S3.row.l1]
    subst hK
    refine ⟨?_, wo_gen fun K hK => ?_⟩
    · show get 28 _ = _
      simp (disch := first | omega | (simp only [lnv]; omega)) only [wlk, mwk, ↓get_put', ↓reduceIte, seval]
    simp (disch := first | omega | (simp only [lnv]; omega)) only [wlk, mwk, ↓get_put', ↓reduceIte, seval]
    subst hK
    refine ⟨?_, ?_⟩
    · show get 31 _ = _
      simp (disch := first | omega | (simp only [lnv]; omega)) only [wlk, mwk, ↓get_put', ↓reduceIte, seval]
    · rw [sqs_n]
      refine OkS.cc (tail _ h3 [] (by simp (disch := first | omega | (simp only [lnv]; omega)) only [wlk, mwk, ↓get_put', ↓reduceIte, seval]) (by rw [hX0]) m3 (fun f hf => (by cases hf)) .nil hst0)
  subst hmp
  refine OkS.seq (OkS.rngF (wo_gen fun K hK => ?_))
  dsimp only [r50_0]
  simp (disch := first | omega | (simp only [lnv]; omega)) only [wlk, mwk, ↓get_put', ↓reduceIte, seval, S3.row.l1]
  subst hK
  let Inv : B → En → F → H → Prop := fun idI vis t g => get 29 t = .p idI 0 0 0 ∧ get 3 t = .p h2.next 0 0 3 ∧ B.val h3.next ≤ B.val idI ∧ B.val idI < B.val g.next ∧ Stay (fun q => q = h.next) h3 g ∧
    ∃ Y Z : Cs, vis = vCs Y ∧ (∀ y ∈ Y, y ∈ X) ∧ bCs Z = bCs Y ∧ MapC g h.next (vCs Z) ∧ (∀ z ∈ Z, FileX g z.2.1 z.2.2 ∧ ∀ q, qOf z.2.1 q → B.val idI < B.val q) ∧ Z.Pairwise apa
  let Kb : Ev.X → F → H → Prop := fun x t g => x = .normal ∧ get 3 t = .p h2.next 0 0 3 ∧ Stay (fun q => q = h.next) h3 g ∧ ∃ Z : Cs, (bCs Z).Perm (bCs X) ∧ MapC g h.next (vCs Z) ∧ (∀ z ∈ Z, FileX g z.2.1 z.2.2 ∧ ∀ q, qOf z.2.1 q → B.val h3.next ≤ B.val q) ∧ Z.Pairwise apa
  refine ⟨idm, vCs X, Inv, Kb, ?_, mF, ?_, ⟨fun hi => hi.1, ?_, ?_, ?_⟩, ?_⟩
  · show get 28 _ = _
    simp (disch := first | omega | (simp only [lnv]; omega)) only [wlk, mwk, ↓get_put', ↓reduceIte, seval]
  · intro g st hn
    exact ⟨by simp (disch := first | omega | (simp only [lnv]; omega)) only [wlk, mwk, ↓get_put', ↓reduceIte, seval], by simp (disch := first | omega | (simp only [lnv]; omega)) only [wlk, mwk, ↓get_put', ↓reduceIte, seval], Nat.le_refl _, by omega, st.mono fun _ _ e => e.elim, [], [], rfl, fun y hy => (by cases hy), rfl, m3.stay st fun e => e, fun f hf => (by cases hf), .nil⟩
  · rintro idI vis t g g' ⟨a1, a2, a3, a4, a5, Y, Z, b1, b2, b3, b4, b5, b6⟩ st hnx
    refine ⟨a1, a2, a3, by rw [hnx]; exact a4, stay_past a5 st fun q e => .inr (by rw [e]; exact a3), Y, Z, b1, b2, b3, b4.stay st fun e => by rw [← e] at a3; omega, fun f hf => ⟨(b5 f hf).1.stay st fun q hq e => ?_, (b5 f hf).2⟩, b6⟩
    have := (b5 f hf).2 q hq
    rw [e] at this; exact absurd this (Nat.lt_irrefl _)
  · rintro idI vis t g ⟨a1, a2, a3, a4, a5, Y, Z, b1, b2, b3, b4, b5, b6⟩ hv ha
    refine wo_gen fun K hK => ?_
    simp (disch := first | omega | (simp only [lnv]; omega)) only [wlk, mwk, ↓get_put', ↓reduceIte, seval]
    subst hK
    refine ⟨?_, Stay.refl _ _, rfl, by simp (disch := first | omega | (simp only [lnv]; omega)) only [wlk, mwk, ↓get_put', ↓reduceIte, seval, a2], a5, Z, ?_, b4, fun f hf => ⟨(b5 f hf).1, fun q hq => by have := (b5 f hf).2 q hq; omega⟩, b6⟩
    · show get 31 _ = _
      simp (disch := first | omega | (simp only [lnv]; omega)) only [wlk, mwk, ↓get_put', ↓reduceIte, seval]
    · rw [b3]
      subst b1
      exact (all_perm (by rw [← keys_nam]; exact mF.nod) b2 hv.2 ha).map _
  · rintro idI vis t g k v ⟨a1, a2, a3, a4, a5, Y, Z, b1, b2, b3, b4, b5, b6⟩ hv hin hk
    obtain ⟨x, hxX, hxe⟩ := List.mem_map.1 hin
    obtain ⟨kx, vx, bs⟩ := x
    obtain ⟨rfl, rfl⟩ := Prod.mk.inj hxe
    have hfg := a5.fl hf3
    have Sg := S3.stay a5 (fun q hq e => by rw [e] at hq; exact absurd hq (Nat.lt_irrefl _)) hn3
    have hfr : FileR h.next g vx bs := Sg.fil _ hxX
    have hbl : bs.length ≤ 1000000 := hl _ hxX
    have hng : B.val h.next ≤ B.val g.next := Nat.le_trans hn3 a5.next
    have ocg := oc.stay a5 hcc
    refine wo_gen fun K hK => ?_
    simp (disch := first | omega | (simp only [lnv]; omega)) only [wlk, mwk, ↓get_put', ↓reduceIte, seval]
    subst hK
    refine ⟨?_, by simp (disch := first | omega | (simp only [lnv]; omega)) only [wlk, mwk, ↓get_put', ↓reduceIte, seval, a1], Stay.refl _ _, ?_⟩
    · show get 31 _ = _
      simp (disch := first | omega | (simp only [lnv]; omega)) only [wlk, mwk, ↓get_put', ↓reduceIte, seval]
    refine wo_gen fun K hK => ?_
    simp (disch := first | omega | (simp only [lnv]; omega)) only [wlk, mwk, ↓get_put', ↓reduceIte, seval]
    subst hK
    refine ⟨Stay.refl _ _, OkS.cc ?_⟩
    repeat' (first
      | refine St.h ?_
      | simp (disch := first | omega | (simp only [lnv]; omega)) only [wlk, mwk, ↓get_put', ↓reduceIte, seval, a2, ocg.own.row.l1]
      | (with_reducible (first | apply cd_split | apply gd_split)) <;> (intro hc; (try simp only [hcn] at hc); (try simp only [hc]); (try simp only [hcl] at hc); try omega))
    refine CL.mkU (cl_file hfr.re (by rw [reFloor_next]; exact hng) hbl (re_fl _)) ?_
    rintro y g4' ⟨c2, s4, c4⟩
    have fl4 : g4'.floor = g.next := by rw [s4.floor, reFloor_floor]
    have c2 := c2.un fl4 hfg
    have s4 := s4.unfloor
    rw [reFloor_next] at c4
    generalize unFloor g g4' = g4 at c2 s4 ⊢
    clear fl4
    have hf4 := s4.fl hfg
    have b44 := b4.stay s4 fun e => e
    repeat' (first
      | refine St.h ?_
      | simp (disch := first | omega | (simp only [lnv]; omega)) only [wlk, mwk, ↓get_put', ↓reduceIte, seval]
      | (with_reducible (first | apply cd_split | apply gd_split)) <;> (intro hc; (try simp only [hcn] at hc); (try simp only [hc]); (try simp only [hcl] at hc); try omega))
    have hlz : (vCs Z).length ≤ 1048576 := by
      have e1 : Z.length = Y.length := by have := congrArg List.length b3; unfold bCs at this; rwa [List.length_map, List.length_map] at this
      have e2 : (vCs Y).length ≤ (vCs X).length := by rw [← b1]; exact hv.len
      rw [len_Cs] at *
      rw [len_Cs] at e2
      omega
    refine MU.mk b44 hlz fun g5 m5 s5 => ?_
    have hZY : Z.map (·.1) = Y.map (·.1) := by
      have h1 : ∀ W : Cs, (bCs W).map (·.1) = W.map (·.1) := fun W => by unfold bCs; rw [List.map_map]; rfl
      rw [← h1 Z, b3, h1 Y]
    have hkn : kx ∉ keysE (vCs Z) := by rw [keys_nam, hZY, ← keys_nam, ← b1]; exact hk
    have hset : setE (vCs Z) kx y = vCs (Z ++ [(kx, (y, bs))]) := by
      have hi : idxE (vCs Z) kx = none := by
        cases hi : idxE (vCs Z) kx with
        | none => rfl
        | some i => exact absurd (getE_mem.1 ⟨_, (idxE_get hi).2⟩) hkn
      rw [(idxE_none hi).2.1]
      show _ ++ _ = List.map _ (_ ++ _)
      rw [List.map_append]; rfl
    rw [hset] at m5
    have hoc : ∀ q, qOf y q → B.val g.next ≤ B.val q := fun q ⟨nn, fin, e⟩ => c4 q ⟨_, _, _, _, _, e⟩
    have hcl : B.val h.next < B.val h3.next := by omega
    have sAll : Stay (fun q => q = h.next) g g5 := stay_past (s4.mono fun _ _ e => e.elim) s5 fun q e => .inl e
    repeat' (first
      | refine St.h ?_
      | simp (disch := first | omega | (simp only [lnv]; omega)) only [wlk, mwk, ↓get_put', ↓reduceIte, seval]
      | (with_reducible (first | apply cd_split | apply gd_split)) <;> (intro hc; (try simp only [hcn] at hc); (try simp only [hc]); (try simp only [hcl] at hc); try omega))
    refine ⟨sAll.mono fun q _ e => by
      rw [e]
      refine ⟨fun e2 => ?_, fun e2 => ?_⟩
      · rw [e2] at hidm; exact absurd hidm (Nat.lt_irrefl _)
      · rw [← e2] at a3; omega, ?_⟩
    refine ⟨by simp (disch := first | omega | (simp only [lnv]; omega)) only [wlk, mwk, ↓get_put', ↓reduceIte, seval, a1], by simp (disch := first | omega | (simp only [lnv]; omega)) only [wlk, mwk, ↓get_put', ↓reduceIte, seval, a2], a3, by have := sAll.next; omega, a5.trans sAll, Y ++ [(kx, (vx, bs))], Z ++ [(kx, (y, bs))], ?_, ?_, ?_, m5, ?_, ?_⟩
    · rw [b1]
      show _ = List.map _ (_ ++ _)
      rw [List.map_append]; rfl
    · intro w hw
      rcases List.mem_append.1 hw with h1 | h1
      · exact b2 w h1
      · rw [List.mem_singleton.1 h1]; exact hxX
    · show List.map _ (_ ++ _) = List.map _ (_ ++ _)
      rw [List.map_append, List.map_append]
      exact congrArg (· ++ [(kx, bs)]) b3
    · intro f hf
      rcases List.mem_append.1 hf with h1 | h1
      · refine ⟨(b5 f h1).1.stay sAll fun q hq e => ?_, (b5 f h1).2⟩
        have := (b5 f h1).2 q hq
        rw [e] at this; omega
      · have hfe : f = (kx, (y, bs)) := by simpa using h1
        rw [hfe]
        exact ⟨c2.stay s5 fun q hq e => (by have := hoc q hq; rw [e] at this; omega), fun q hq => by have := hoc q hq; omega⟩
    · refine List.pairwise_append.2 ⟨b6, List.pairwise_singleton .., fun f1 h1 f2 h2 q q1 q2 => ?_⟩
      have hfe : f2 = (kx, (y, bs)) := by simpa using h2
      rw [hfe] at q2
      have k1 := hoc q q2
      have k2 := (b5 f1 h1).1.lt q1
      omega
  · rintro x t' g ⟨rfl, f3, st, Z, hper, mg, fil, fp⟩ _
    rw [sqs_n]
    exact OkS.cc (tail _ g Z f3 hper mg fil fp st)
end
end Go.Proofs.YtiokhkainaodnaaGreatDoor

set_option maxRecDepth 100000
set_option maxHeartbeats 8000000
set_option linter.all false
namespace Go.Proofs.YtiokhkainaodnaaGreatDoor
open Go Go.Ev Go.MapKept
def okByte : V → Bool
  | .i .u8 (.ofNat n) => Nat.ble (n + 1) 256
  | _ => false
noncomputable def okB (vs : List V) : Bool := List.rec true (fun v _ ih => ifK (okByte v) fun _ => ih) vs
/-- what the files hold -/
noncomputable def readF (h : H) (ps : List (V × V)) : (List (V × List V) → Bool) → Bool :=
  List.rec (fun k => k []) (fun p _ ih k => Prod.rec (fun a v => vL v (fun _ => false) fun id g off len fin _ => natC len (fun _ => ih fun qs => k ((a, []) :: qs)) fun n =>
    ifK (Nat.ble n 1000000) fun _ => ifK (Nat.ble (B.val id + 1) (B.val h.next)) fun _ => loadN h id g off fin n fun vs => ifK (okB vs) fun _ => ih fun qs => k ((a, vs) :: qs)) p) ps
/-- files that hold it, one by one; what is empty lies in no block of its own -/
noncomputable def newFs (eb : Nat) (s : B) (ps : List (V × List V)) : H → (List (V × V) → H → Bool) → Bool :=
  List.rec (fun h k => k [] h) (fun p _ ih h k => Prod.rec (fun a vs => natC vs.length (fun _ => ih h fun qs h => k ((a, .l s 0 0 0 0 (some 0)) :: qs) h) fun n => alloc eb vs h fun id h => ih h fun qs h => k ((a, .l id 0 0 n n none) :: qs) h) p) ps
def isRoom : V → Bool
  | .i .i64 _ => true
  | _ => false
def isTxt : V → Bool
  | .s l n => Nat.ble (n + 1) (256 ^ l)
  | _ => false
def isL0 : V → Bool
  | .l0 => true
  | _ => false
def isBo : V → Bool
  | .b _ => true
  | _ => false
noncomputable def act1 (vs : List V) (k : List V → Bool) : Bool := match vs with
  | a :: b :: c :: d :: e :: f :: r => ifK (isRoom a) fun _ => ifK (isTxt b) fun _ => ifK (isTxt c) fun _ => ifK (isRoom d) fun _ => ifK (isL0 e) fun _ => ifK (isBo f) fun _ => k r
  | _ => false
/-- acts of which nothing is gone -/
noncomputable def okActs (n : Nat) : List V → Bool := Nat.rec (fun vs => vs.isEmpty) (fun _ ih vs => act1 vs ih) n
noncomputable def newLo (ea n : Nat) (ls : List V) (h : H) (k : V → H → Bool) : Bool := natC n (fun _ => k .l0 h) fun n => fN (Nat.mul n 6) fun z => alloc ea ls h fun q h => k (.l q 0 0 n z none) h
noncomputable def copyE (eb ea es : Nat) (s : B) (a : V) (n : Nat) (ls : List V) (ps : List (V × V)) (h : H) (k : V → H → Bool) : Bool :=
  readF h ps fun qs => newFs eb s qs h fun rs h1 => newMap rs h1 fun cm h2 => newLo ea n ls h2 fun lo h3 => alloc es [a, .m cm, lo] h3 fun c h4 => k (.p c 0 0 3) h4
noncomputable def copyM (eb ea es : Nat) (s : B) (a m : V) (n : Nat) (ls : List V) (h : H) (k : V → H → Bool) : Bool := vM m (fun _ => copyE eb ea es s a n ls [] h k) fun id =>
  ifK (Nat.ble (B.val id + 1) (B.val h.next)) fun _ => mapK h id fun _ _ _ _ _ _ _ ps => ifK (okPs ps) fun _ => ifK (Nat.ble ps.length 1000) fun _ => copyE eb ea es s a n ls ps h k
noncomputable def copyL (c : V) (h : H) (k : Nat → List V → Bool) : Bool := vL c (fun _ => k 0 []) fun id g off len fin _ => natC len (fun _ => false) fun n => ifK (Nat.ble n 10000) fun _ => ifK (Nat.ble (B.val id + 1) (B.val h.next)) fun _ => loadN h id g off fin (Nat.mul n 6) fun vs => ifK (okActs n vs) fun _ => k n vs
noncomputable def copyA (eb ea es : Nat) (s : B) (a m c : V) (h : H) (k : V → H → Bool) : Bool := ifK (isRoom a) fun _ => ifK (Nat.ble (B.val s + 1) (B.val h.next)) fun _ => ifK (Nat.ble (B.val h.floor) (B.val h.next)) fun _ => copyL c h fun n ls => copyM eb ea es s a m n ls h k
noncomputable def fin3 : List V → Bool
  | [.p _ _ _ 3] => true
  | _ => false
noncomputable def copyS (eb ea es : Nat) : Sp := fun args h k => ifK (fin3 args) fun _ => shelfK args h fun s a m c => copyA eb ea es s a m c h k
inductive RF (w : World) (el : Nat) : List UInt8 → Value → Option Nat → Prop where
  | nil (a : Addr) : RF w el [] (.slice (some a) 0 0) none
  | cons {bs : List UInt8} {b cap : Nat} {c : Array Value} {fz : Nat × Nat} (h0 : bs ≠ []) (h1 : w.heap[b]? = some (.cells c el fz)) (h2 : fz.1 = fz.2) (h3 : bs.length ≤ cap) (h4 : cap ≤ c.size)
      (h5 : ∀ (i : Nat) y v, (bs.map bv)[i]? = some y → c[i]? = some v → ∀ ρ, VRel ρ y v) : RF w el bs (.slice (some ⟨b, 0, none⟩) bs.length cap) (some b)
abbrev Bs := List (List UInt8 × List UInt8)
inductive RFs (w : World) (el : Nat) : Bs → List MapEntry → List (Option Nat) → Prop where
  | nil : RFs w el [] [] []
  | cons {k bs : List UInt8} {e : MapEntry} {o : Option Nat} {X : Bs} {l : List MapEntry} {os : List (Option Nat)} (h1 : ∀ ρ, VRel ρ (sv k) e.key) (h2 : RF w el bs e.val o) (h3 : RFs w el X l os) : RFs w el ((k, bs) :: X) (e :: l) (o :: os)
/-- .. a row of acts -/
inductive LF (w : World) (el : Nat) : List AC → Value → Option Nat → Prop where
  | nil : LF w el [] (.slice none 0 0) none
  | cons {U : List AC} {b cap : Nat} {c : Array Value} {fz : Nat × Nat} (h0 : U ≠ []) (h1 : w.heap[b]? = some (.cells c el fz)) (h2 : fz.1 = fz.2) (h3 : U.length ≤ cap) (h4 : cap * 6 ≤ c.size)
      (h5 : ∀ (i : Nat) y v, (U.flatMap actC)[i]? = some y → c[i]? = some v → ∀ ρ, VRel ρ y v) : LF w el U (.slice (some ⟨b, 0, none⟩) U.length cap) (some b)
theorem vact {ρ ρ' : Emb} {U : List AC} {i : Nat} {y : V} {v : Value} (h : (U.flatMap actC)[i]? = some y) (hv : VRel ρ y v) : VRel ρ' y v := by
  obtain ⟨a, _, ha⟩ := List.mem_flatMap.1 (List.mem_of_getElem? h)
  have ha : y ∈ [V.i .i64 a.kind, sv a.name, sv a.old, .i .i64 a.front, .l0, .b a.had] := ha
  simp only [List.mem_cons, List.mem_nil_iff, or_false] at ha
  rcases ha with rfl | rfl | rfl | rfl | rfl | rfl <;> exact hv
def opa (a b : Option Nat) : Prop := ∀ q, a = some q → b = some q → False
theorem RFs.perm {w : World} {el : Nat} {X Y : Bs} (p : X.Perm Y) : ∀ {l os}, RFs w el X l os → ∃ l' os', l'.Perm l ∧ os'.Perm os ∧ RFs w el Y l' os' := by
  induction p with
  | nil => intro l os h; exact ⟨l, os, .refl _, .refl _, h⟩
  | cons x _ ih =>
    intro l os h
    cases h with
    | cons h1 h2 h3 =>
      obtain ⟨l', os', p1, p2, p3⟩ := ih h3
      exact ⟨_, _, p1.cons _, p2.cons _, .cons h1 h2 p3⟩
  | swap x y z =>
    intro l os h
    cases h with
    | cons h1 h2 h3 =>
      cases h3 with
      | cons g1 g2 g3 => exact ⟨_, _, .swap _ _ _, .swap _ _ _, .cons g1 g2 (.cons h1 h2 g3)⟩
  | trans _ _ ih1 ih2 =>
    intro l os h
    obtain ⟨l1, os1, a1, a2, a3⟩ := ih1 h
    obtain ⟨l2, os2, b1, b2, b3⟩ := ih2 a3
    exact ⟨l2, os2, b1.trans a1, b2.trans a2, b3⟩
theorem vbv {ρ ρ' : Emb} {bs : List UInt8} {i : Nat} {y : V} {v : Value} (h : (bs.map bv)[i]? = some y) (hv : VRel ρ y v) : VRel ρ' y v := by
  rw [List.getElem?_map] at h
  cases hb : bs[i]? with
  | none => rw [hb] at h; cases h
  | some c => rw [hb] at h; cases h; exact hv
section
variable {ρ : Emb} {g : H} {w w1 : World} {n0 c cm : B} {N : Nat}
theorem rfs_of (R : HRel ρ g w w1) : ∀ {Z : Cs} {l : List MapEntry}, F2 ρ (toP (vCs Z)) l → (∀ z ∈ Z, FileX g z.2.1 z.2.2) → Z.Pairwise apa → ∃ os, RFs w 5 (bCs Z) l os ∧
    (∀ o ∈ os, ∀ b, o = some b → ∃ z ∈ Z, ∃ q L, qOf z.2.1 q ∧ ρ q 0 = some L ∧ L.b = b) ∧ os.Pairwise opa
  | [], _, f, _, _ => by
    cases f
    exact ⟨[], .nil, fun o ho => (by cases ho), List.Pairwise.nil⟩
  | (k, v, bs) :: Z, l, f, hx, hp => by
    have f' : F2 ρ ((sv k, v) :: toP (vCs Z)) l := f
    cases f' with
    | cons f1 f2 f3 =>
      obtain ⟨p1, p2⟩ := List.pairwise_cons.1 hp
      obtain ⟨os, a1, a2, a3⟩ := rfs_of R f3 (fun z hz => hx z (List.mem_cons_of_mem _ hz)) p2
      have up : ∀ o ∈ os, ∀ b, o = some b → ∃ z ∈ (k, v, bs) :: Z, ∃ q L, qOf z.2.1 q ∧ ρ q 0 = some L ∧ L.b = b := fun o ho b hb => by
        obtain ⟨z, hz, r⟩ := a2 o ho b hb
        exact ⟨z, List.mem_cons_of_mem _ hz, r⟩
      rcases hx (k, v, bs) (List.mem_cons_self ..) with ⟨hb, id, hv⟩ | ⟨hb, q, hv, o⟩
      · have hb : bs = [] := hb
        have hv : v = .l id 0 0 0 0 (some 0) := hv
        subst hb; subst hv
        obtain ⟨L, a, cc, b1, b2, b3, b4, b5, b6, b7, b8⟩ := f2
        have hc : cc = 0 := b7 0 rfl (by decide)
        refine ⟨none :: os, .cons (fun ρ' => f1) ?_ a1, fun o ho b hb => ?_, List.pairwise_cons.2 ⟨fun o ho q e => (by cases e), a3⟩⟩
        · rw [b2, hc]; exact .nil a
        · rcases List.mem_cons.1 ho with e | e
          · rw [e] at hb; cases hb
          · exact up o e b hb
      · have hb : bs ≠ [] := hb
        have hv : v = .l q 0 0 bs.length bs.length none := hv
        subst hv
        have hpos : 0 < bs.length := List.length_pos_iff.2 hb
        obtain ⟨L, a, cc, b1, b2, b3, b4, b5, b6, b7, b8⟩ := f2
        obtain ⟨⟨blk, c1, c2, c3, c4, c5, c6, c7⟩, _, _⟩ := o
        have hs : L.s = 0 := by omega
        have ha : a = ⟨L.b, 0, none⟩ := by
          rcases b6 with ⟨e, _⟩ | e
          · omega
          · rw [e, hs]
        obtain ⟨blk', d1, d2, d3, d4, d5, d6, d7⟩ := R.loc _ _ _ b1
        have : blk' = blk := by rw [c1] at d1; exact (Option.some.inj d1).symm
        subst this
        obtain ⟨cs, el, e1, e2, e3, e4⟩ := d7 (by rw [c3]; exact Nat.le_refl _)
        obtain ⟨e5, fz, e6, e7⟩ := e1
        rw [c4] at e7
        have e7 : fz.1 = fz.2 := e7
        rw [c5] at e5
        subst e5
        have hcap : cc ≤ cs.size := by
          rcases b8 (.inl rfl) with ⟨e, _⟩ | ⟨z, z1, z2, z3, _⟩
          · omega
          · rw [e2]
            have : cc * 1 ≤ cc * z := Nat.mul_le_mul_left _ z1
            omega
        refine ⟨some L.b :: os, .cons (fun ρ' => f1) ?_ a1, fun o ho b hb => ?_, List.pairwise_cons.2 ⟨fun o ho q' e e' => ?_, a3⟩⟩
        · rw [b2, ha]
          refine .cons hb e6 e7 b3 hcap fun i y v hy hv ρ' => ?_
          have hi : i < bs.length := by
            have := (List.getElem?_eq_some_iff.1 hy).1; simpa using this
          obtain ⟨v', x, g1, g2, g3⟩ := e4 i (by omega) (by omega)
          rw [c7 i y hy] at g1
          cases g1
          rw [hs] at g2
          have g2 : cs[i]? = some x := g2
          rw [hv] at g2
          cases g2
          exact vbv hy g3
        · rcases List.mem_cons.1 ho with e | e
          · rw [e] at hb; cases hb
            exact ⟨_, List.mem_cons_self .., q, L, ⟨_, _, rfl⟩, b1, rfl⟩
          · exact up o e b hb
        · cases e
          obtain ⟨z, hz, q2, L2, k1, k2, k3⟩ := a2 o ho _ e'
          have := (R.sep _ _ _ _ _ _ b1 k2 k3.symm).1
          subst this
          exact p1 z hz q ⟨_, _, rfl⟩ k1
/-- a copy, seen from the world -/
structure CopyR (w : World) (X : Bs) (U : List AC) (rm : Int) (N : Nat) (x : Value) (bS bM : Nat) (cS : Array Value) (fS : Nat × Nat) (es : Array MapEntry) (clock : Nat) (l : List MapEntry) (os : List (Option Nat)) (yl : Value) (ol : Option Nat) : Prop where
  x : x = .pointer (some ⟨bS, 0, none⟩)
  s : w.heap[bS]? = some (.cells cS 115 fS)
  fz : fS.1 = fS.2
  n : 3 ≤ cS.size
  s0 : ∀ y, cS[0]? = some y → y = .int .i64 rm
  s1 : ∀ y, cS[1]? = some y → y = .map (some bM)
  s2 : ∀ y, cS[2]? = some y → y = yl
  m : w.heap[bM]? = some (.map es clock)
  st : Stamped es clock
  p : l.Perm es.toList
  rf : RFs w 5 X l os
  fr : ∀ o ∈ os, ∀ b, o = some b → N ≤ b ∧ b ≠ bS ∧ b ≠ bM
  pw : os.Pairwise opa
  ne : bS ≠ bM
  nS : N ≤ bS
  nM : N ≤ bM
  lf : LF w 201 U yl ol
  fl : ∀ b, ol = some b → N ≤ b ∧ b ≠ bS ∧ b ≠ bM ∧ some b ∉ os
theorem copy_real {Z X : Cs} {U : List AC} {lo' : V} {rm : Int} {x : Value} (R : HRel ρ g w w1) (C : CopyX n0 g c cm lo' Z U rm) (hN : ∀ id g' L, ρ id g' = some L → B.val n0 ≤ B.val id → N ≤ L.b) (hx : VRel ρ (.p c 0 0 3) x) (hp : (bCs Z).Perm (bCs X)) :
    ∃ bS bM cS fS es clock l os yl ol, CopyR w (bCs X) U rm N x bS bM cS fS es clock l os yl ol := by
  obtain ⟨L, a1, a2, a3, a4⟩ := hx
  have hs : L.s = 0 := by omega
  rw [hs] at a2
  obtain ⟨blk, d1, d2, d3, d4, d5, d6, d7⟩ := R.loc _ _ _ a1
  obtain ⟨⟨blk', c1, c2, c3, c4, c5, c6, c7⟩, _, _⟩ := C.own
  have : blk' = blk := by rw [c1] at d1; exact (Option.some.inj d1)
  subst this
  obtain ⟨cS, el, e1, e2, e3, e4⟩ := d7 (by rw [c3]; exact Nat.le_refl _)
  obtain ⟨e5, fz, e6, e7⟩ := e1
  rw [c4] at e7
  have e7 : fz.1 = fz.2 := e7
  rw [c5] at e5
  subst e5
  have hsz : 3 ≤ cS.size := by omega
  have cell : ∀ i v, [V.i .i64 rm, .m cm, lo'][i]? = some v → ∃ y, cS[i]? = some y ∧ VRel ρ v y := fun i v hv => by
    have hi : i < 3 := by
      have := (List.getElem?_eq_some_iff.1 hv).1; simpa using this
    obtain ⟨v', y, g1, g2, g3⟩ := e4 i (by omega) (by omega)
    rw [c7 i v hv] at g1
    cases g1
    rw [hs] at g2
    exact ⟨y, g2, g3⟩
  obtain ⟨y0, k0, v0⟩ := cell 0 _ rfl
  obtain ⟨y1, k1, LM, m1, v1⟩ := cell 1 _ rfl
  obtain ⟨y2, k2, v2⟩ := cell 2 _ rfl
  obtain ⟨bm, n1, n2, n3⟩ := C.map.blk
  obtain ⟨es, clock, w1, ps, w2, w3⟩ := R.mp.map cm LM bm m1 n1 n2
  obtain rfl := RdP.uniq w2 n3
  obtain ⟨l, l1, l2⟩ := w3.rel
  obtain ⟨os, r1, r2, r3⟩ := rfs_of R l2 C.fil C.fp
  obtain ⟨l', os', q1, q2, q3⟩ := r1.perm hp
  have hlo : ∃ ol, LF w 201 U y2 ol ∧ ∀ b, ol = some b → ∃ q Lq, isOf lo' q ∧ ρ q 0 = some Lq ∧ Lq.b = b ∧ B.val n0 ≤ B.val q := by
    rcases C.loo with ⟨hU, hlo⟩ | ⟨hU, q, hlo, o, nq⟩
    · subst hU; subst hlo
      have v2 : y2 = .slice none 0 0 := v2
      subst v2
      exact ⟨none, .nil, fun b hb => (by cases hb)⟩
    · subst hlo
      have hpos : 0 < U.length := List.length_pos_iff.2 hU
      obtain ⟨Lq, a, cc, b1, b2, b3, b4, b5, b6, b7, b8⟩ := v2
      obtain ⟨⟨bk, c1, c2, c3, c4, c5, c6, c7⟩, _, _⟩ := o
      have hs : Lq.s = 0 := by omega
      have ha : a = ⟨Lq.b, 0, none⟩ := by
        rcases b6 with ⟨e, _⟩ | e
        · omega
        · rw [e, hs]
      obtain ⟨bk', d1, d2, d3, d4, d5, d6, d7⟩ := R.loc _ _ _ b1
      have : bk' = bk := by rw [c1] at d1; exact (Option.some.inj d1).symm
      subst this
      obtain ⟨cs, el, e1, e2, e3, e4⟩ := d7 (by rw [c3]; exact Nat.le_refl _)
      obtain ⟨e5, fz, e6, e7⟩ := e1
      rw [c4] at e7
      have e7 : fz.1 = fz.2 := e7
      rw [c5] at e5
      subst e5
      have hcap : cc * 6 ≤ cs.size := by
        rcases b8 (.inl rfl) with ⟨e, _⟩ | ⟨z, z1, z2, z3, _⟩
        · omega
        · have z2 : U.length * 6 = U.length * z := by omega
          have : z = 6 := (Nat.eq_of_mul_eq_mul_left hpos z2).symm
          subst this
          rw [e2]
          omega
      have hlen := fm_len actC_len U
      refine ⟨some Lq.b, ?_, fun b hb => (by cases hb; exact ⟨q, Lq, ⟨_, _, _, _, _, rfl⟩, b1, rfl, nq⟩)⟩
      rw [b2, ha]
      refine .cons hU e6 e7 b3 hcap fun i y v hy hv ρ' => ?_
      have hi : i < U.length * 6 := by
        have := (List.getElem?_eq_some_iff.1 hy).1; rwa [hlen] at this
      obtain ⟨v', x, g1, g2, g3⟩ := e4 i (by omega) (by omega)
      rw [c7 i y hy] at g1
      cases g1
      rw [hs] at g2
      have g2 : cs[i]? = some x := g2
      rw [hv] at g2
      cases g2
      exact vact hy g3
  obtain ⟨ol, o1, o2⟩ := hlo
  refine ⟨L.b, LM.b, cS, fz, es, clock, l', os', y2, ol, a2, e6, e7, hsz, fun y hy => ?_, fun y hy => ?_, fun y hy => ?_, w1, w3.st, q1.trans l1, q3, fun o ho b hb => ?_, ?_, fun e => ?_, hN _ _ _ a1 C.nc, hN _ _ _ m1 C.nm, o1, fun b hb => ?_⟩
  · rw [k0] at hy; cases hy; exact v0
  · rw [k1] at hy; cases hy; exact v1
  · rw [k2] at hy; cases hy; rfl
  · obtain ⟨z, hz, q, Lq, t1, t2, rfl⟩ := r2 o (q2.mem_iff.1 ho) b hb
    obtain ⟨u1, u2, u3, _⟩ := C.fs z hz q t1
    exact ⟨hN _ _ _ t2 u1, fun e => u2 (R.sep _ _ _ _ _ _ t2 a1 e).1, fun e => u3 (R.sep _ _ _ _ _ _ t2 m1 e).1⟩
  · exact (q2.pairwise_iff (fun {a b} h q e1 e2 => h q e2 e1)).2 r3
  · exact C.cc (R.sep _ _ _ _ _ _ a1 m1 e).1
  · obtain ⟨q, Lq, t0, t1, t2, t3⟩ := o2 b hb
    subst t2
    refine ⟨hN _ _ _ t1 t3, fun e => ?_, fun e => ?_, fun e => ?_⟩
    · have := (R.sep _ _ _ _ _ _ t1 a1 e).1
      rw [this] at t0; exact C.ls t0
    · have := (R.sep _ _ _ _ _ _ t1 m1 e).1
      rw [this] at t0; exact C.lm t0
    · obtain ⟨z, hz, p, Lp, s1, s2, s3⟩ := r2 _ (q2.mem_iff.1 e) _ rfl
      have := (R.sep _ _ _ _ _ _ s2 t1 s3).1
      rw [← this] at t0
      exact (C.fs z hz p s1).2.2.2 t0
end
abbrev rdB (X : Bs) : List (V × List V) := X.map fun z => (sv z.1, z.2.map bv)
theorem okB_ok : ∀ {vs : List V}, okB vs = true → ∃ bs : List UInt8, vs = bs.map bv
  | [], _ => ⟨[], rfl⟩
  | v :: vs, h => by
    have h' : (ifK (okByte v) fun _ => okB vs) = true := h
    obtain ⟨h1, h2⟩ := ifK_ok h'
    obtain ⟨bs, rfl⟩ := okB_ok h2
    cases v <;> try exact Bool.noConfusion h1
    rename_i kd n
    cases kd <;> try exact Bool.noConfusion h1
    cases n with
    | negSucc n => exact Bool.noConfusion h1
    | ofNat n =>
      have h3 : Nat.ble (n + 1) 256 = true := h1
      have h4 : n < 256 := Nat.le_of_ble_eq_true h3
      refine ⟨UInt8.ofNat n :: bs, ?_⟩
      rw [List.map_cons, ← bv_ofNat, Nat.mod_eq_of_lt h4]; rfl
theorem loadN_un {h : H} {id : B} {g off fin n : Nat} {k : List V → Bool} (hk : loadN h id g off fin n k = true) : ∃ vs, (∀ k', loadN h id g off fin n k' = k' vs) ∧ vs.length = n ∧ off + n ≤ fin ∧ Row h id g off vs := by
  obtain ⟨next, floor, heap⟩ := h
  have hk0 := hk
  simp only [loadN, hK_mk] at hk0
  obtain ⟨⟨cur, min, size, cells, bel, fr⟩, hb, hk0⟩ := optK_ok hk0
  simp only [blkK_mk] at hk0
  obtain ⟨hm, hk0⟩ := ifK_ok hk0
  obtain ⟨hf, hk0⟩ := ifK_ok hk0
  obtain ⟨vs, q1, q2, q3⟩ := getList_ok _ _ _ _ hk0
  refine ⟨vs, fun k' => by simp only [loadN, hK_mk, hb, optK_some, blkK_mk, hm, ifK_true, hf, q1], q2, Nat.le_of_ble_eq_true hf, ⟨fun _ => ⟨_, hb, Nat.le_of_ble_eq_true hm⟩, fun i y hy => ?_⟩⟩
  have hi : i < n := by
    have := (List.getElem?_eq_some_iff.1 hy).1; omega
  unfold cell cellB
  simp only [hb]
  rw [if_pos (Nat.le_of_ble_eq_true hm), q3 i hi]
  exact hy
theorem readF_ok {h : H} : ∀ {E : En} {k : List (V × List V) → Bool}, readF h (toP E) k = true → ∃ X : Cs, E = vCs X ∧ (∀ z ∈ X, FileR h.next h z.2.1 z.2.2 ∧ z.2.2.length ≤ 1000000) ∧ ∀ k', readF h (toP E) k' = k' (rdB (bCs X))
  | [], _, _ => ⟨[], rfl, fun z hz => (by cases hz), fun _ => rfl⟩
  | (a, v) :: E, k, hk => by
    have e : ∀ k', readF h (toP ((a, v) :: E)) k' = vL v (fun _ => false) fun id g off len fin _ => natC len (fun _ => readF h (toP E) fun qs => k' ((sv a, []) :: qs)) fun n =>
        ifK (Nat.ble n 1000000) fun _ => ifK (Nat.ble (B.val id + 1) (B.val h.next)) fun _ => loadN h id g off fin n fun vs => ifK (okB vs) fun _ => readF h (toP E) fun qs => k' ((sv a, vs) :: qs) := fun _ => rfl
    rw [e] at hk
    rcases vL_ok hk with ⟨_, h1⟩ | ⟨id, g, off, len, fin, cap, hv, hk1⟩
    · exact Bool.noConfusion h1
    subst hv
    rcases natC_ok hk1 with ⟨hl, hk2⟩ | ⟨m, hl, hk2⟩
    · subst hl
      obtain ⟨X, rfl, x1, x2⟩ := readF_ok hk2
      refine ⟨(a, .l id g off 0 fin cap, []) :: X, rfl, fun z hz => ?_, fun k' => by rw [e, vL_l, natC_zero, x2]; rfl⟩
      rcases List.mem_cons.1 hz with e1 | e1
      · rw [e1]; exact ⟨.inl ⟨rfl, _, _, _, _, _, rfl⟩, Nat.zero_le _⟩
      · exact x1 z e1
    · subst hl
      obtain ⟨b1, hk3⟩ := ifK_ok hk2
      obtain ⟨b2, hk4⟩ := ifK_ok hk3
      obtain ⟨vs, c1, c2, c3, c4⟩ := loadN_un hk4
      rw [c1] at hk4
      obtain ⟨b3, hk5⟩ := ifK_ok hk4
      obtain ⟨bs, rfl⟩ := okB_ok b3
      rw [List.length_map] at c2
      obtain ⟨X, rfl, x1, x2⟩ := readF_ok hk5
      refine ⟨(a, .l id g off (m + 1) fin cap, bs) :: X, rfl, fun z hz => ?_, fun k' => by rw [e, vL_l, natC_succ, b1, ifK_true, b2, ifK_true, c1, b3, ifK_true, x2]; rfl⟩
      rcases List.mem_cons.1 hz with e1 | e1
      · rw [e1]
        refine ⟨.inr ⟨id, g, off, fin, cap, by rw [c2], (by show off + bs.length ≤ fin; omega), Nat.le_of_ble_eq_true b2, c4⟩, ?_⟩
        show bs.length ≤ _
        rw [c2]; exact Nat.le_of_ble_eq_true b1
      · exact x1 z e1
theorem newFs_ok {eb : Nat} {s : B} : ∀ {X : Bs} {h : H} {k : List (V × V) → H → Bool}, newFs eb s (rdB X) h k = true → ∃ qs h', (∀ k', newFs eb s (rdB X) h k' = k' qs h') ∧ KeepF h h' ∧ B.val h.next ≤ B.val h'.next ∧
    ∀ ρ w w0 l os L, HRel ρ h w w0 → RFs w eb X l os → (∀ o ∈ os, ∀ b, o = some b → (∀ id g L, ρ id g = some L → L.b ≠ b) ∧ w0.heap.size ≤ b) → os.Pairwise opa → ρ s 0 = some L → L.s = 0 →
      ∃ ρ', Ext h.floor ρ ρ' ∧ F2 ρ' qs l ∧ (∀ id g L, ρ' id g = some L → (∃ o ∈ os, o = some L.b) ∨ ρ id g = some L) ∧ HRel ρ' h' w w0
  | [], h, k, _ => ⟨[], h, fun _ => rfl, KeepF.refl h, Nat.le_refl _, fun ρ w w0 l os L R f _ _ _ _ => by
      cases f
      exact ⟨ρ, Ext.refl _ ρ, .nil, fun _ _ _ h => .inr h, R⟩⟩
  | (a, bs) :: X, h, k, hk => by
    have e : ∀ k', newFs eb s (rdB ((a, bs) :: X)) h k' = natC (bs.map bv).length (fun _ => newFs eb s (rdB X) h fun qs h => k' ((sv a, .l s 0 0 0 0 (some 0)) :: qs) h) fun n => alloc eb (bs.map bv) h fun id h => newFs eb s (rdB X) h fun qs h => k' ((sv a, .l id 0 0 n n none) :: qs) h := fun _ => rfl
    rw [e] at hk
    rcases natC_ok hk with ⟨hl, hk1⟩ | ⟨m, hl, hk1⟩
    · have hb : bs = [] := by rw [List.length_map] at hl; exact List.length_eq_zero_iff.1 hl
      subst hb
      obtain ⟨qs, h', a1, a2, a3, a4⟩ := newFs_ok hk1
      refine ⟨(sv a, .l s 0 0 0 0 (some 0)) :: qs, h', fun k' => by rw [e]; show newFs eb s (rdB X) h _ = _; rw [a1], a2, a3, fun ρ w w0 l os L R f fr pw hL hs => ?_⟩
      cases f with
      | cons f1 f2 f3 =>
        obtain ⟨ρ', q1, q2, q3, q4⟩ := a4 ρ w w0 _ _ L R f3 (fun o ho => fr o (List.mem_cons_of_mem _ ho)) (List.pairwise_cons.1 pw).2 hL hs
        refine ⟨ρ', q1, .cons (f1 ρ') ?_ q2, fun id g L hL => (q3 id g L hL).imp_left fun ⟨o, ho, e⟩ => ⟨o, List.mem_cons_of_mem _ ho, e⟩, q4⟩
        generalize hx : MapEntry.val _ = x at f2
        cases f2 with
        | nil ad =>
          exact ⟨L, ad, 0, q1.1 _ _ _ hL, rfl, Nat.le_refl _, by omega, Nat.zero_le _, .inl ⟨rfl, .inr rfl⟩, fun d hd _ => (by cases hd; rfl), fun hu => absurd hu (Unk.no (by decide))⟩
        | cons h0 _ _ _ _ _ => exact absurd rfl h0
    · have hb : bs ≠ [] := by intro e; rw [e] at hl; simp at hl
      have hpos : 0 < bs.length := List.length_pos_iff.2 hb
      obtain ⟨h1, b1, b2, b3, b4⟩ := adopt_ok hk1
      rw [b1] at hk1
      obtain ⟨qs, h', a1, a2, a3, a4⟩ := newFs_ok hk1
      refine ⟨(sv a, .l h.next 0 0 bs.length bs.length none) :: qs, h', fun k' => by rw [e, hl, natC_succ, b1, a1, ← hl, List.length_map], b2.trans b3 a2, Nat.le_trans b3 a3, fun ρ w w0 l os L R f fr pw hL hs => ?_⟩
      cases f with
      | cons f1 f2 f3 =>
        obtain ⟨p1, p2⟩ := List.pairwise_cons.1 pw
        generalize hx : MapEntry.val _ = x at f2
        cases f2 with
        | nil ad => exact absurd rfl hb
        | cons h0 g1 g2 g3 g4 g5 =>
          rename_i b cap c fz
          obtain ⟨fb1, fb2⟩ := fr _ (List.mem_cons_self ..) _ rfl
          obtain ⟨ρ1, q1, q2, q3, q4⟩ := b4 ρ w w0 c b c.size fz R g1 g2 fb1 fb2 (by rw [List.length_map]; omega) rfl (fun i v y hv hy => g5 i v y hv hy ρ)
          have le1 := q1.1
          have key : ∀ o ∈ _, ∀ b', o = some b' → (∀ id g L, ρ1 id g = some L → L.b ≠ b') ∧ w0.heap.size ≤ b' := fun o ho b' hb' => by
            obtain ⟨u1, u2⟩ := fr o (List.mem_cons_of_mem _ ho) b' hb'
            refine ⟨fun id g L hL e => ?_, u2⟩
            rcases q3 id g L hL with h2 | h2
            · exact p1 o ho b rfl (by rw [hb', ← e, h2])
            · exact u1 id g L h2 e
          obtain ⟨ρ', r1, r2, r3, r4⟩ := a4 ρ1 w w0 _ _ L q4 f3 key p2 (le1 _ _ _ hL) hs
          · rw [b2.1] at r1
            refine ⟨ρ', q1.trans r1, .cons (f1 ρ') ?_ r2, fun id g L hL => ?_, r4⟩
            · refine ⟨_, ⟨b, 0, none⟩, cap, r1.1 _ _ _ q2, hx, g3, Nat.le_refl _, by rw [List.length_map]; exact Nat.le_refl _, .inr rfl, fun d hd => (by cases hd), fun _ => .inr ⟨1, Nat.le_refl _, by omega, ?_, fun d hd => (by cases hd)⟩⟩
              show 0 - 0 + cap * 1 ≤ c.size
              omega
            · rcases r3 id g L hL with ⟨o, ho, e⟩ | h1
              · exact .inl ⟨o, List.mem_cons_of_mem _ ho, e⟩
              · rcases q3 id g L h1 with h2 | h2
                · exact .inl ⟨_, List.mem_cons_self .., by rw [h2]⟩
                · exact .inr h2
/-- a map that lies there already comes to be known as a new one -/
theorem newMap_ok {qs : List (V × V)} {h : H} {k : B → H → Bool} (hk : newMap qs h k = true) : ∃ h', (∀ k', newMap qs h k' = k' h.next h') ∧ KeepF h h' ∧ B.val h.next ≤ B.val h'.next ∧
    ∀ ρ w w0 (b0 : Nat) es clock, HRel ρ h w w0 → w.heap[b0]? = some (.map es clock) → (∀ id g L, ρ id g = some L → L.b ≠ b0) → w0.heap.size ≤ b0 → MapP ρ qs es clock →
      ∃ ρ', Ext h.floor ρ ρ' ∧ ρ' h.next 0 = some ⟨b0, 0, 0, 0, none⟩ ∧ (∀ id g L, ρ' id g = some L → L.b = b0 ∨ ρ id g = some L) ∧ HRel ρ' h' w w0 := by
  obtain ⟨next, floor, heap⟩ := h
  have e : ∀ k', newMap qs ⟨next, floor, heap⟩ k' = setList (flat2 qs) 0 .o fun t => T.setK next ⟨0, 7, 0, t, qs.length, 0⟩ heap fun heap => B.incK next fun next' => k' next ⟨next', floor, heap⟩ := fun _ => rfl
  rw [e] at hk
  obtain ⟨t, h1, h2, h3⟩ := setList_ok _ _ _ _ hk
  obtain ⟨hp, h4, h5, h6⟩ := setK_ok next (⟨0, 7, 0, t, qs.length, 0⟩ : Blk) heap
  obtain ⟨nx, h7, h8⟩ := incK_ok next
  refine ⟨⟨nx, floor, hp⟩, fun k' => by rw [e, h1, h4, h7], ⟨rfl, fun hf id hid => h6 id (fun e => by rw [e] at hid; exact absurd hf (Nat.not_le.2 hid))⟩, by show B.val next ≤ B.val nx; omega, fun ρ w w0 b0 es clock R hb0 hu h00 hm => ?_⟩
  have hnone : ρ next 0 = none := by
    cases hr : ρ next 0 with
    | none => rfl
    | some L => have := R.ids _ _ _ hr; exact absurd this (Nat.lt_irrefl _)
  have hne : ∀ id g L, ρ id g = some L → ¬ (id = next) := fun id g L hr he => by
    have := R.ids _ _ _ hr; rw [he] at this; exact absurd this (Nat.lt_irrefl _)
  have hle := Emb.put_le (⟨b0, 0, 0, 0, none⟩ : Ev.Loc) hnone
  have hcase : ∀ {id g L}, ρ.put next 0 ⟨b0, 0, 0, 0, none⟩ id g = some L → (id = next ∧ g = 0 ∧ L = ⟨b0, 0, 0, 0, none⟩) ∨ ρ id g = some L := by
    intro id g L hL
    by_cases e : id = next ∧ g = 0
    · left; obtain ⟨rfl, rfl⟩ := e; rw [Emb.put_same] at hL; exact ⟨rfl, rfl, (Option.some.inj hL).symm⟩
    · right; rwa [Emb.put_other _ _ _ _ e] at hL
  have hrd : RdP t qs.length qs := ⟨rfl, fun i kv hi => by
    obtain ⟨a1, a2⟩ := flat2_get qs i kv hi
    have b1 := h2 _ _ a1
    have b2 := h2 _ _ a2
    rw [Nat.zero_add] at b1 b2
    exact ⟨b1, b2⟩⟩
  refine ⟨ρ.put next 0 ⟨b0, 0, 0, 0, none⟩, Ext.put hnone R.flo, Emb.put_same _ _ _ _, fun id g L hL => (hcase hL).imp (fun e => by rw [e.2.2]) (fun e => e), ?_⟩
  refine ⟨fun id g L hL => ?_, fun id g L hL => ?_, fun id g L id' g' L' hL hL' hb => ?_, ?_, fun b hb => ?_, fun id g L hL hf => ?_, R.tp, R.os, R.out, R.siz, fun id L blk hL hblk kc hm2 => ?_, R.ito.of fun id g L blk hL hblk hg hm2 => ?_⟩
  · rcases hcase hL with ⟨rfl, rfl, rfl⟩ | hL
    · exact ⟨_, h5, Nat.le_refl _, (Array.getElem?_eq_some_iff.1 hb0).1, Nat.le_refl _, fun _ => Nat.le_refl _, fun _ => rfl, fun hm => by have hm : 7 ≤ 0 := hm; omega⟩
    · obtain ⟨blk, a1, a2, a3, a4, a5, a6, a7⟩ := R.loc _ _ _ hL
      refine ⟨blk, (h6 id (hne _ _ _ hL)).trans a1, a2, a3, a4, a5, a6, fun hm => ?_⟩
      obtain ⟨c', el', b1, b2, b3, b4⟩ := a7 hm
      refine ⟨c', el', b1, b2, b3, fun i i1 i2 => ?_⟩
      obtain ⟨v, x, d1, d2, d3⟩ := b4 i i1 i2
      exact ⟨v, x, d1, d2, VRel.up hle _ _ d3⟩
  · show B.val id < B.val nx
    rcases hcase hL with ⟨rfl, rfl, rfl⟩ | hL
    · rw [h8]; exact Nat.lt_succ_self _
    · have : B.val id < B.val next := R.ids _ _ _ hL
      rw [h8]; omega
  · rcases hcase hL with ⟨i1, i2, i3⟩ | hM <;> rcases hcase hL' with ⟨j1, j2, j3⟩ | hM'
    · exact ⟨i1.trans j1.symm, by rw [i3, j3]⟩
    · exact absurd (by rw [← hb, i3]) (hu _ _ _ hM')
    · exact absurd (by rw [hb, j3]) (hu _ _ _ hM)
    · exact R.sep _ _ _ _ _ _ hM hM' hb
  · show B.val floor ≤ B.val nx
    have : B.val floor ≤ B.val next := R.flo
    rw [h8]; omega
  · exact R.old b hb
  · rcases hcase hL with ⟨rfl, rfl, rfl⟩ | hL
    · exact h00
    · exact R.up _ _ _ hL hf
  · rcases hcase hL with ⟨rfl, _, rfl⟩ | hL
    · have hb2 : hp.get id = some blk := hblk
      rw [h5] at hb2
      have hb3 := Option.some.inj hb2
      subst hb3
      cases kc with
      | true => exact absurd hm2 (by show ¬ 7 = 0 + 11; decide)
      | false => exact ⟨_, hb0, es, clock, rfl, qs, hrd, hm.up hle⟩
    · obtain ⟨_, _, _, a3, _⟩ := R.loc _ _ _ hL
      obtain ⟨o, q1, q2⟩ := R.mp id L blk hL ((h6 id (hne _ _ _ hL)).symm.trans hblk) kc hm2
      exact ⟨o, q1, q2.up hle⟩
  · rcases hcase hL with ⟨rfl, _, rfl⟩ | hL
    · have hb2 : hp.get id = some blk := hblk
      rw [h5] at hb2
      have hb3 := Option.some.inj hb2
      subst hb3
      exact absurd hm2 (by show ¬ 7 = 0 + 9; decide)
    · exact ⟨hL, (h6 id (hne _ _ _ hL)).symm.trans hblk, rfl⟩
theorem room_i {a : V} (h : isRoom a = true) : ∃ x, a = .i .i64 x := by
  cases a <;> try exact Bool.noConfusion h
  rename_i kd n
  cases kd <;> first | exact ⟨n, rfl⟩ | exact Bool.noConfusion h
theorem l0_i {a : V} (h : isL0 a = true) : a = .l0 := by cases a <;> first | rfl | exact Bool.noConfusion h
theorem bo_i {a : V} (h : isBo a = true) : ∃ x, a = .b x := by cases a <;> first | exact ⟨_, rfl⟩ | exact Bool.noConfusion h
theorem txt_sv {v : V} (h : isTxt v = true) : ∃ bs, v = sv bs := by
  cases v <;> try exact Bool.noConfusion h
  exact key_sv h
theorem okActs_ok : ∀ {n : Nat} {vs : List V}, okActs n vs = true → ∃ U : List AC, U.length = n ∧ vs = U.flatMap actC
  | 0, vs, h => by
    have h : vs.isEmpty = true := h
    exact ⟨[], rfl, List.isEmpty_iff.1 h⟩
  | n + 1, vs, h => by
    have h : act1 vs (okActs n) = true := h
    match vs, h with
    | a :: b :: c :: d :: e :: f :: r, h =>
      have h : (ifK (isRoom a) fun _ => ifK (isTxt b) fun _ => ifK (isTxt c) fun _ => ifK (isRoom d) fun _ => ifK (isL0 e) fun _ => ifK (isBo f) fun _ => okActs n r) = true := h
      obtain ⟨h1, g1⟩ := ifK_ok h
      obtain ⟨h2, g2⟩ := ifK_ok g1
      obtain ⟨h3, g3⟩ := ifK_ok g2
      obtain ⟨h4, g4⟩ := ifK_ok g3
      obtain ⟨h5, g5⟩ := ifK_ok g4
      obtain ⟨h6, g6⟩ := ifK_ok g5
      obtain ⟨U, u1, rfl⟩ := okActs_ok g6
      obtain ⟨kd, rfl⟩ := room_i h1
      obtain ⟨fr, rfl⟩ := room_i h4
      obtain ⟨nm, rfl⟩ := txt_sv h2
      obtain ⟨od, rfl⟩ := txt_sv h3
      obtain rfl := l0_i h5
      obtain ⟨hd, rfl⟩ := bo_i h6
      exact ⟨⟨kd, nm, od, fr, hd⟩ :: U, by simp [u1], rfl⟩
theorem newLo_ok {ea : Nat} {U : List AC} {h : H} {k : V → H → Bool} (hk : newLo ea U.length (U.flatMap actC) h k = true) : ∃ v h', (∀ k', newLo ea U.length (U.flatMap actC) h k' = k' v h') ∧ KeepF h h' ∧ B.val h.next ≤ B.val h'.next ∧
    ∀ ρ w w0 y o, HRel ρ h w w0 → LF w ea U y o → (∀ b, o = some b → (∀ id g L, ρ id g = some L → L.b ≠ b) ∧ w0.heap.size ≤ b) →
      ∃ ρ', Ext h.floor ρ ρ' ∧ VRel ρ' v y ∧ (∀ id g L, ρ' id g = some L → o = some L.b ∨ ρ id g = some L) ∧ HRel ρ' h' w w0 := by
  have e : ∀ k', newLo ea U.length (U.flatMap actC) h k' = natC U.length (fun _ => k' .l0 h) fun n => fN (Nat.mul n 6) fun z => alloc ea (U.flatMap actC) h fun q h => k' (.l q 0 0 n z none) h := fun _ => rfl
  rw [e] at hk
  have hlen := fm_len actC_len U
  rcases natC_ok hk with ⟨hl, _⟩ | ⟨m, hl, hk1⟩
  · have hU : U = [] := List.length_eq_zero_iff.1 hl
    subst hU
    refine ⟨.l0, h, fun k' => rfl, KeepF.refl h, Nat.le_refl _, fun ρ w w0 y o R f _ => ?_⟩
    cases f with
    | nil => exact ⟨ρ, Ext.refl _ ρ, rfl, fun _ _ _ h => .inr h, R⟩
    | cons h0 _ _ _ _ _ => exact absurd rfl h0
  · have hU : U ≠ [] := by intro e; rw [e] at hl; simp at hl
    have hpos : 0 < U.length := List.length_pos_iff.2 hU
    rw [fN_eq] at hk1
    obtain ⟨h1, b1, b2, b3, b4⟩ := adopt_ok hk1
    refine ⟨.l h.next 0 0 U.length (U.length * 6) none, h1, fun k' => by rw [e, hl, natC_succ, fN_eq, b1]; rfl, b2, b3, fun ρ w w0 y o R f fr => ?_⟩
    cases f with
    | nil => exact absurd rfl hU
    | cons h0 g1 g2 g3 g4 g5 =>
      rename_i b cap c fz
      obtain ⟨fb1, fb2⟩ := fr _ rfl
      obtain ⟨ρ1, q1, q2, q3, q4⟩ := b4 ρ w w0 c b c.size fz R g1 g2 fb1 fb2 (by omega) rfl (fun i v y hv hy => g5 i v y hv hy ρ)
      refine ⟨ρ1, q1, ⟨_, ⟨b, 0, none⟩, cap, q2, rfl, g3, Nat.le_refl _, by rw [hlen]; exact Nat.le_refl _, .inr rfl, fun d hd => (by cases hd), fun _ => .inr ⟨6, by omega, by omega, ?_, fun d hd => (by cases hd)⟩⟩, fun id g L hL => (q3 id g L hL).imp_left fun e => by rw [e], q4⟩
      show 0 - 0 + cap * 6 ≤ c.size
      omega
/-- the copy: what is reckoned is what the program makes -/
theorem copyE_ok {h : H} {s : B} {rm : Int} {mp lo : V} {E : En} {U : List AC} {k : V → H → Bool} (hk : copyE 5 201 115 s (.i .i64 rm) U.length (U.flatMap actC) (toP E) h k = true)
    (hrow : Row h s 0 0 [.i .i64 rm, mp, lo]) (hs : B.val s < B.val h.next) (hf : B.val h.floor ≤ B.val h.next) (hE : E.length ≤ 1000) (hU : U.length ≤ 10000) (hmp : (mp = .m0 ∧ E = []) ∨ ∃ id, mp = .m id ∧ MapB h id E)
    (hlo : Ss 6 actC h lo U) (hnn : lo ≠ .l0 → U ≠ []) :
    FnOk Tryz.prog 50 [.p s 0 0 3] h fun y h' => ∀ k', copyE 5 201 115 s (.i .i64 rm) U.length (U.flatMap actC) (toP E) h k' = k' y h' := by
  have e0 : ∀ k', copyE 5 201 115 s (.i .i64 rm) U.length (U.flatMap actC) (toP E) h k' = (readF h (toP E) fun qs => newFs 5 s qs h fun rs h1 => newMap rs h1 fun cm h2 => newLo 201 U.length (U.flatMap actC) h2 fun lo h3 => alloc 115 [.i .i64 rm, .m cm, lo] h3 fun c h4 => k' (.p c 0 0 3) h4) := fun _ => rfl
  have hk0 := hk
  rw [e0] at hk0
  obtain ⟨X, rfl, x1, x2⟩ := readF_ok hk0
  rw [x2] at hk0
  obtain ⟨rs, h1, y1, y2, y3, y4⟩ := newFs_ok hk0
  rw [y1] at hk0
  obtain ⟨h2, z1, z2, z3, z4⟩ := newMap_ok hk0
  rw [z1] at hk0
  obtain ⟨lv, h3, t1, t2, t3, t4⟩ := newLo_ok hk0
  rw [t1] at hk0
  obtain ⟨h4, u1, u2, u3, u4⟩ := adopt_ok hk0
  have S : SrcR (reFloor h).next (reFloor h) s mp lo X U rm := by
    obtain ⟨next, floor, heap⟩ := h
    refine ⟨hrow, ?_, hlo, hnn, fun z hz => (x1 z hz).1.re, hs, fun q hq => ?_⟩
    · rcases hmp with ⟨rfl, e⟩ | ⟨id, rfl, m⟩
      · exact .inl ⟨rfl, by unfold vCs at e; exact List.map_eq_nil_iff.1 e⟩
      · exact .inr ⟨id, rfl, ⟨m.blk, m.lt, m.nod⟩, m.lt⟩
    · rcases hlo with ⟨e, _⟩ | ⟨id, g, off, fin, cap, e, _, hl, _⟩
      · rw [e] at hq; obtain ⟨_, _, _, _, _, e⟩ := hq; cases e
      · rw [e] at hq; obtain ⟨_, _, _, _, _, e⟩ := hq; cases e; exact hl
  rw [len_Cs] at hE
  have cp := copy_n S hE hU (fun z hz => (x1 z hz).2) (by rw [reFloor_floor, reFloor_next]; exact Nat.le_refl _)
  refine ⟨.p h3.next 0 0 3, h4, ⟨((y2.trans y3 z2).trans (Nat.le_trans y3 z3) t2).trans (Nat.le_trans (Nat.le_trans y3 z3) t3) u2, Nat.le_trans y3 (Nat.le_trans z3 (Nat.le_trans t3 u3)), fun ρ w w0 args hl R => ?_⟩, fun k' => by rw [e0, x2, y1, z1, t1, u1]⟩
  obtain ⟨b1, b2⟩ := cp ρ w w args hl (Dn.re R) R.refloor
  refine ⟨b1, b2.mono fun e w' ⟨x, y, g, e1, ⟨c, cm, lo', Z, hy, C, hp⟩, kf, _, ρ', q1, q2, q3⟩ => ⟨x, e1, ?_⟩⟩
  subst hy
  have R2 : HRel ρ h w' w0 := R.grow q3.old q3.siz q3.tp q3.os q3.out
  obtain ⟨bS, bM, cS, fS, es, clock, l, os, yl, ol, K⟩ := copy_real (N := w.heap.size) q3 C (fun id g' L hL hi => q3.up id g' L hL (by rw [kf.1, reFloor_floor]; rw [reFloor_next] at hi; exact hi)) q2 hp
  have hlt : ∀ id g L, ρ id g = some L → L.b < w.heap.size := fun id g L hL => by obtain ⟨_, _, _, a3, _⟩ := R.loc _ _ _ hL; exact a3
  have hsL : ∃ L, ρ s 0 = some L ∧ L.s = 0 := by
    cases args with
    | nil => cases hl
    | cons a r =>
      obtain ⟨⟨L, l1, l2, l3, l4⟩, _⟩ := hl
      exact ⟨L, l1, by omega⟩
  obtain ⟨L, hL, hLs⟩ := hsL
  obtain ⟨ρ1, f1, f2, f3, f4⟩ := y4 ρ w' w0 l os L R2 K.rf (fun o ho b hb => ⟨fun id g L hL e => (by have h1 := hlt id g L hL; have h2 := (K.fr o ho b hb).1; omega), Nat.le_trans R.siz (K.fr o ho b hb).1⟩) K.pw hL hLs
  obtain ⟨ρ2, g1, g2, g3, g4⟩ := z4 ρ1 w' w0 bM es clock f4 K.m (fun id g L hL e => by
    rcases f3 id g L hL with ⟨o, ho, h1⟩ | h1
    · exact (K.fr o ho _ h1).2.2 e
    · have h2 := hlt id g L h1
      have h3 := K.nM
      omega) (Nat.le_trans R.siz K.nM) ⟨⟨l, K.p, f2⟩, K.st⟩
  obtain ⟨ρ3, j1, j2, j3, j4⟩ := t4 ρ2 w' w0 yl ol g4 K.lf (fun b hb => ⟨fun id g L hL e => by
    obtain ⟨k1, k2, k3, k4⟩ := K.fl b hb
    rcases g3 id g L hL with h1 | h1
    · exact k3 (e.symm.trans h1)
    · rcases f3 id g L h1 with ⟨o, ho, h1⟩ | h1
      · rw [h1, e] at ho; exact k4 ho
      · have h2 := hlt id g L h1
        omega, Nat.le_trans R.siz (K.fl b hb).1⟩)
  obtain ⟨ρ4, i1, i2, i3, i4⟩ := u4 ρ3 w' w0 cS bS cS.size fS j4 K.s K.fz (fun id g L hL e => by
    rcases j3 id g L hL with h1 | h1
    · exact (K.fl _ h1).2.1 e
    rcases g3 id g L h1 with h1 | h1
    · exact K.ne (e.symm.trans h1)
    · rcases f3 id g L h1 with ⟨o, ho, h1⟩ | h1
      · exact (K.fr o ho _ h1).2.1 e
      · have h2 := hlt id g L h1
        have h3 := K.nS
        omega) (Nat.le_trans R.siz K.nS) K.n rfl (fun i v y hv hy => by
    match i, hv with
    | 0, hv => cases hv; exact K.s0 y hy
    | 1, hv => cases hv; exact ⟨_, j1.1 _ _ _ g2, K.s1 y hy⟩
    | 2, hv => cases hv; rw [K.s2 y hy]; exact j2)
  rw [y2.1] at g1
  rw [z2.1, y2.1] at j1
  rw [t2.1, z2.1, y2.1] at i1
  exact ⟨ρ4, f1.trans (g1.trans (j1.trans i1)), ⟨_, i2, K.x, Nat.le_refl _, Nat.le_refl _⟩, i4⟩
theorem copy_sp : SpOk Tryz.prog 50 (copyS 5 201 115) := by
  refine sp_of_fn fun vs h k hk => ?_
  have hk0 : (ifK (fin3 vs) fun _ => shelfK vs h fun s a m c => copyA 5 201 115 s a m c h k) = true := hk
  obtain ⟨h0, hk1⟩ := ifK_ok hk0
  obtain ⟨s, fin, a, m, c, hvs, hf3, r, e⟩ := shelfK_ok hk1
  subst hvs
  rw [e] at hk1
  have hfin : fin = 3 := by
    match fin, h0 with
    | 3, _ => rfl
  subst hfin
  have e1 : ∀ k', copyS 5 201 115 [.p s 0 0 3] h k' = copyA 5 201 115 s a m c h k' := fun k' => e fun s a m c => copyA 5 201 115 s a m c h k'
  have e2 : ∀ k', copyA 5 201 115 s a m c h k' = (ifK (isRoom a) fun _ => ifK (Nat.ble (B.val s + 1) (B.val h.next)) fun _ => ifK (Nat.ble (B.val h.floor) (B.val h.next)) fun _ => copyL c h fun n ls => copyM 5 201 115 s a m n ls h k') := fun _ => rfl
  rw [e2] at hk1
  obtain ⟨c1, hk2⟩ := ifK_ok hk1
  obtain ⟨rm, rfl⟩ := room_i c1
  obtain ⟨c2, hk4⟩ := ifK_ok hk2
  obtain ⟨c3, hk5⟩ := ifK_ok hk4
  have hs : B.val s < B.val h.next := Nat.le_of_ble_eq_true c2
  have hf : B.val h.floor ≤ B.val h.next := Nat.le_of_ble_eq_true c3
  obtain ⟨U, l1, l2, l3, l4⟩ : ∃ U : List AC, (∀ k', copyL c h k' = k' U.length (U.flatMap actC)) ∧ U.length ≤ 10000 ∧ Ss 6 actC h c U ∧ (c ≠ .l0 → U ≠ []) := by
    have e3 : ∀ k', copyL c h k' = vL c (fun _ => k' 0 []) fun id g off len fin _ => natC len (fun _ => false) fun n => ifK (Nat.ble n 10000) fun _ => ifK (Nat.ble (B.val id + 1) (B.val h.next)) fun _ => loadN h id g off fin (Nat.mul n 6) fun vs => ifK (okActs n vs) fun _ => k' n vs := fun _ => rfl
    rw [e3] at hk5
    rcases vL_ok hk5 with ⟨hc, _⟩ | ⟨id, g, off, len, fin, cap, hc, a2⟩
    · subst hc
      exact ⟨[], fun _ => rfl, Nat.zero_le _, .inl ⟨rfl, rfl⟩, fun h => absurd rfl h⟩
    · subst hc
      rcases natC_ok a2 with ⟨_, h1⟩ | ⟨n, hl, a3⟩
      · exact Bool.noConfusion h1
      subst hl
      obtain ⟨b1, a4⟩ := ifK_ok a3
      obtain ⟨b2, a5⟩ := ifK_ok a4
      obtain ⟨vs, d1, d2, d3, d4⟩ := loadN_un a5
      rw [d1] at a5
      obtain ⟨b3, _⟩ := ifK_ok a5
      obtain ⟨U, hU, rfl⟩ := okActs_ok b3
      refine ⟨U, fun k' => by rw [e3, vL_l, natC_succ, b1, ifK_true, b2, ifK_true, d1, b3, ifK_true, hU], by rw [hU]; exact Nat.le_of_ble_eq_true b1, .inr ⟨id, g, off, fin, cap, by rw [hU], ?_, Nat.le_of_ble_eq_true b2, d4⟩, fun _ e => by rw [e] at hU; simp at hU⟩
      have d3 : off + (n + 1) * 6 ≤ fin := d3
      rw [hU]; exact d3
  rw [l1] at hk5
  have e3 : ∀ k', copyS 5 201 115 [.p s 0 0 3] h k' = copyM 5 201 115 s (.i .i64 rm) m U.length (U.flatMap actC) h k' := fun k' => by
    rw [e1, e2, c1, ifK_true, c2, ifK_true, c3, ifK_true, l1]
  cases m <;> try exact Bool.noConfusion hk5
  · have hk6 : copyE 5 201 115 s (.i .i64 rm) U.length (U.flatMap actC) (toP []) h k = true := hk5
    refine (copyE_ok hk6 r hs hf (Nat.zero_le _) l2 (.inl ⟨rfl, rfl⟩) l3 l4).mono fun y h' hy k' => ?_
    rw [e3]; exact hy k'
  · rename_i mid
    have e4 : ∀ k', copyM 5 201 115 s (.i .i64 rm) (.m mid) U.length (U.flatMap actC) h k' = ifK (Nat.ble (B.val mid + 1) (B.val h.next)) fun _ => mapK h mid fun _ _ _ _ _ _ _ ps => ifK (okPs ps) fun _ => ifK (Nat.ble ps.length 1000) fun _ => copyE 5 201 115 s (.i .i64 rm) U.length (U.flatMap actC) ps h k' := fun _ => rfl
    rw [e4] at hk5
    obtain ⟨hlt, hk6⟩ := ifK_ok hk5
    obtain ⟨next, floor, heap, cur, min, size, fr, ps, q1, q2, q3⟩ := mapB_of hk6 hlt
    obtain ⟨hok, q4⟩ := ifK_ok q2
    obtain ⟨hps, q5⟩ := ifK_ok q4
    obtain ⟨E, rfl, n1, n2⟩ := okPs_ok hok
    have hE : E.length ≤ 1000 := by
      have := Nat.le_of_ble_eq_true hps
      unfold toP at this
      rwa [List.length_map] at this
    refine (copyE_ok q5 r hs hf hE l2 (.inr ⟨mid, rfl, q3 E rfl n1⟩) l3 l4).mono fun y h' hy k' => ?_
    rw [e3, e4, hlt, ifK_true, q1, hok, ifK_true, hps, ifK_true]
    exact hy k'
end Go.Proofs.YtiokhkainaodnaaGreatDoor

namespace Go.Proofs
open Go.Shelf
def Tryz.keys69_ren : Go.Shelf.Ren := ⟨fun | 7 => 69 | 10 => 154 | n => n, fun | 23 => 100 | 26 => 3 | 3 => 3 | 28 => 141 | 0 => 0 | 27 => 140 | 33 => 238 | 4 => 4 | n => n, fun | n => n⟩
theorem Tryz.keys69 : Go.Proofs.SlLaysZI.n7 Tryz.prog Tryz.keys69_ren := {
  mixed := by kernel_rfl
  f7 := ⟨Tryz.f69.name, by decide, Tryz.func69.trans (congrArg some (by kernel_rfl))⟩
  f10 := ⟨Tryz.f154.name, by decide, Tryz.func154.trans (congrArg some (by kernel_rfl))⟩
  t0 := Tryz.underlying0
  a0 := Tryz.isAgg0
  z0 := Tryz.sizeOf0
  v0 := Tryz.zeroValue0
  t4 := Tryz.underlying4
  a4 := Tryz.isAgg4
  z4 := Tryz.sizeOf4
  v4 := Tryz.zeroValue4
  t23 := Tryz.underlying100
  a23 := Tryz.isAgg100
  z23 := Tryz.sizeOf100
  v23 := Tryz.zeroValue100
  t26 := Tryz.underlying3
  a26 := Tryz.isAgg3
  z26 := Tryz.sizeOf3
  v26 := Tryz.zeroValue3
  t27 := Tryz.underlying140
  a27 := Tryz.isAgg140
  z27 := Tryz.sizeOf140
  v27 := Tryz.zeroValue140
  t28 := Tryz.underlying141
  a28 := Tryz.isAgg141
  z28 := Tryz.sizeOf141
  v28 := Tryz.zeroValue141
  t33 := Tryz.underlying238
  a33 := Tryz.isAgg238
  z33 := Tryz.sizeOf238
  v33 := Tryz.zeroValue238 }
def Tryz.sorted68_ren : Go.Shelf.Ren := ⟨fun | 6 => 68 | 8 => 152 | 9 => 153 | 11 => 227 | 13 => 205 | 12 => 228 | 23 => 267 | 24 => 268 | 14 => 285 | 15 => 286 | 16 => 287 | 17 => 288 | 18 => 289 | 19 => 290 | 20 => 291 | 21 => 292 | 22 => 293 | 25 => 329 | 26 => 317 | 27 => 318 | 28 => 330 | 29 => 331 | 30 => 269 | 31 => 357 | n => n, fun | 26 => 3 | 28 => 141 | 24 => 125 | 0 => 0 | 3 => 3 | 37 => 276 | 48 => 330 | 50 => 312 | 4 => 4 | 40 => 340 | 39 => 339 | 45 => 256 | 5 => 5 | 9 => 9 | 51 => 384 | 55 => 388 | 57 => 419 | 58 => 80 | 33 => 238 | n => n, fun | n => n⟩
theorem Tryz.sorted68 : Go.Proofs.SlLaysZI.n6 Tryz.prog Tryz.sorted68_ren := {
  mixed := by kernel_rfl
  f6 := ⟨Tryz.f68.name, by decide, Tryz.func68.trans (congrArg some (by kernel_rfl))⟩
  f8 := ⟨Tryz.f152.name, by decide, Tryz.func152.trans (congrArg some (by kernel_rfl))⟩
  f11 := ⟨Tryz.f227.name, by decide, Tryz.func227.trans (congrArg some (by kernel_rfl))⟩
  t0 := Tryz.underlying0
  a0 := Tryz.isAgg0
  z0 := Tryz.sizeOf0
  v0 := Tryz.zeroValue0
  t24 := Tryz.underlying125
  a24 := Tryz.isAgg125
  z24 := Tryz.sizeOf125
  v24 := Tryz.zeroValue125
  t26 := Tryz.underlying3
  a26 := Tryz.isAgg3
  z26 := Tryz.sizeOf3
  v26 := Tryz.zeroValue3
  t28 := Tryz.underlying141
  a28 := Tryz.isAgg141
  z28 := Tryz.sizeOf141
  v28 := Tryz.zeroValue141
  i26 := by kernel_rfl }
def Tryz.sort153_ren : Go.Shelf.Ren := ⟨fun | 5 => 153 | 8 => 205 | 7 => 228 | 19 => 267 | 20 => 268 | 10 => 285 | 11 => 286 | 12 => 287 | 13 => 288 | 14 => 289 | 15 => 290 | 16 => 291 | 17 => 292 | 18 => 293 | 30 => 329 | 31 => 317 | 32 => 318 | 33 => 330 | 34 => 331 | 35 => 269 | 40 => 357 | n => n, fun | 23 => 125 | 25 => 3 | 3 => 3 | 32 => 276 | 22 => 125 | 0 => 0 | 44 => 330 | 46 => 312 | 4 => 4 | 36 => 340 | 35 => 339 | 41 => 256 | 5 => 5 | 9 => 9 | 53 => 384 | 57 => 388 | 63 => 419 | 64 => 80 | n => n, fun | n => n⟩
theorem Tryz.sort153 : Go.Proofs.SlLaysM.n5 Tryz.prog Tryz.sort153_ren := {
  mixed := by kernel_rfl
  f5 := ⟨Tryz.f153.name, by decide, Tryz.func153.trans (congrArg some (by kernel_rfl))⟩
  f7 := ⟨Tryz.f228.name, by decide, Tryz.func228.trans (congrArg some (by kernel_rfl))⟩
  f8 := Tryz.func205.trans (congrArg some (by kernel_rfl))
  f10 := ⟨Tryz.f285.name, by decide, Tryz.func285.trans (congrArg some (by kernel_rfl))⟩
  f11 := ⟨Tryz.f286.name, by decide, Tryz.func286.trans (congrArg some (by kernel_rfl))⟩
  f12 := ⟨Tryz.f287.name, by decide, Tryz.func287.trans (congrArg some (by kernel_rfl))⟩
  f13 := ⟨Tryz.f288.name, by decide, Tryz.func288.trans (congrArg some (by kernel_rfl))⟩
  f14 := ⟨Tryz.f289.name, by decide, Tryz.func289.trans (congrArg some (by kernel_rfl))⟩
  f15 := ⟨Tryz.f290.name, by decide, Tryz.func290.trans (congrArg some (by kernel_rfl))⟩
  f16 := ⟨Tryz.f291.name, by decide, Tryz.func291.trans (congrArg some (by kernel_rfl))⟩
  f17 := ⟨Tryz.f292.name, by decide, Tryz.func292.trans (congrArg some (by kernel_rfl))⟩
  f18 := ⟨Tryz.f293.name, by decide, Tryz.func293.trans (congrArg some (by kernel_rfl))⟩
  f19 := Tryz.func267.trans (congrArg some (by kernel_rfl))
  f20 := Tryz.func268.trans (congrArg some (by kernel_rfl))
  f30 := ⟨Tryz.f329.name, by decide, Tryz.func329.trans (congrArg some (by kernel_rfl))⟩
  f31 := Tryz.func317.trans (congrArg some (by kernel_rfl))
  f32 := Tryz.func318.trans (congrArg some (by kernel_rfl))
  f33 := ⟨Tryz.f330.name, by decide, Tryz.func330.trans (congrArg some (by kernel_rfl))⟩
  f34 := ⟨Tryz.f331.name, by decide, Tryz.func331.trans (congrArg some (by kernel_rfl))⟩
  f35 := ⟨Tryz.f269.name, by decide, Tryz.func269.trans (congrArg some (by kernel_rfl))⟩
  f40 := ⟨Tryz.f357.name, by decide, Tryz.func357.trans (congrArg some (by kernel_rfl))⟩
  t0 := Tryz.underlying0
  a0 := Tryz.isAgg0
  z0 := Tryz.sizeOf0
  v0 := Tryz.zeroValue0
  t3 := Tryz.underlying3
  a3 := Tryz.isAgg3
  z3 := Tryz.sizeOf3
  v3 := Tryz.zeroValue3
  t4 := Tryz.underlying4
  a4 := Tryz.isAgg4
  z4 := Tryz.sizeOf4
  v4 := Tryz.zeroValue4
  t5 := Tryz.underlying5
  a5 := Tryz.isAgg5
  z5 := Tryz.sizeOf5
  v5 := Tryz.zeroValue5
  t9 := Tryz.underlying9
  a9 := Tryz.isAgg9
  z9 := Tryz.sizeOf9
  v9 := Tryz.zeroValue9
  t22 := Tryz.underlying125
  a22 := Tryz.isAgg125
  z22 := Tryz.sizeOf125
  v22 := Tryz.zeroValue125
  t23 := Tryz.underlying125
  a23 := Tryz.isAgg125
  z23 := Tryz.sizeOf125
  v23 := Tryz.zeroValue125
  t25 := Tryz.underlying3
  a25 := Tryz.isAgg3
  z25 := Tryz.sizeOf3
  v25 := Tryz.zeroValue3
  t32 := Tryz.underlying276
  a32 := Tryz.isAgg276
  z32 := Tryz.sizeOf276
  v32 := Tryz.zeroValue276
  t35 := Tryz.underlying339
  a35 := Tryz.isAgg339
  z35 := Tryz.sizeOf339
  v35 := Tryz.zeroValue339
  t36 := Tryz.underlying340
  a36 := Tryz.isAgg340
  z36 := Tryz.sizeOf340
  v36 := Tryz.zeroValue340
  t41 := Tryz.underlying256
  a41 := Tryz.isAgg256
  z41 := Tryz.sizeOf256
  v41 := Tryz.zeroValue256
  t44 := Tryz.underlying330
  a44 := Tryz.isAgg330
  z44 := Tryz.sizeOf330
  v44 := Tryz.zeroValue330
  t46 := Tryz.underlying312
  a46 := Tryz.isAgg312
  z46 := Tryz.sizeOf312
  v46 := Tryz.zeroValue312
  t53 := Tryz.underlying384
  a53 := Tryz.isAgg384
  z53 := Tryz.sizeOf384
  v53 := Tryz.zeroValue384
  t57 := Tryz.underlying388
  a57 := Tryz.isAgg388
  z57 := Tryz.sizeOf388
  v57 := Tryz.zeroValue388
  t63 := Tryz.underlying419
  a63 := Tryz.isAgg419
  z63 := Tryz.sizeOf419
  v63 := Tryz.zeroValue419
  t64 := Tryz.underlying80
  a64 := Tryz.isAgg80
  z64 := Tryz.sizeOf80
  v64 := Tryz.zeroValue80 }
end Go.Proofs

set_option maxRecDepth 100000
set_option maxHeartbeats 8000000
set_option linter.all false
namespace Go.Proofs.YtiokhkainaodnaaGreatDoor
open Go Go.Ev
abbrev Ni := List (Nat × V)
def nv (n : Nat) : V := .i .i64 (.ofNat n)
def toN (E : Ni) : List (V × V) := E.map fun p => (nv p.1, p.2)
noncomputable def natOf : V → (Nat → Bool) → Bool
  | .i .i64 (.ofNat n), k => ifK (Nat.ble n 4611686018427387903) fun _ => k n
  | _, _ => false
noncomputable def okPi (ps : List (V × V)) : Bool := List.rec true (fun p _ ih => Prod.rec (fun a _ => natOf a fun _ => ih) p) ps
noncomputable def insI (n : Nat) (r : List V) : (List V → Bool) → Bool :=
  List.rec (fun k => k [nv n]) (fun v r ih k => natOf v fun m => boolK (Nat.ble n m) (fun _ => k (nv n :: v :: r)) fun _ => ih fun r' => k (v :: r')) r
noncomputable def sortI (ps : List (V × V)) : (List V → Bool) → Bool :=
  List.rec (fun k => k []) (fun p _ ih k => ih fun r => Prod.rec (fun a _ => natOf a fun n => insI n r k) p) ps
noncomputable def sortedI2 (el : Nat) (m : V) (h : H) (k : V → H → Bool) : Bool := vM m (fun _ => k .l0 h) fun id =>
  ifK (Nat.ble (B.val id + 1) (B.val h.next)) fun _ => ifK (Nat.ble (B.val h.floor) (B.val h.next)) fun _ => mapK h id fun _ _ _ _ _ _ _ ps => ifK (okPi ps) fun _ => ifK (Nat.ble ps.length 10000) fun _ => sortI ps fun vs => natC vs.length (fun _ => k .l0 h) fun n => alloc el vs h fun id h => k (.l id 0 0 n n none) h
noncomputable def sortedI1 (el : Nat) (cs : List V) (h : H) (k : V → H → Bool) : Bool := match cs with
  | [p] => vP p fun q g off fin => ifK (Nat.beq g 0) fun _ => ifK (Nat.beq off 0) fun _ => ifK (Nat.beq fin 1) fun _ => load1 h q 0 0 1 fun m => sortedI2 el m h k
  | _ => false
noncomputable def sortedIS (fk el : Nat) : Sp := fun args h k => match args with
  | [v] => vF v fun f cs => ifK (Nat.beq f fk) fun _ => sortedI1 el cs h k
  | _ => false
def sortKI (E : Ni) : List Int := (E.map fun p => (p.1 : Int)).mergeSort leI
theorem natOf_ok {v : V} {k : Nat → Bool} (h : natOf v k = true) : ∃ n, v = nv n ∧ n ≤ 4611686018427387903 ∧ k n = true ∧ ∀ k', natOf v k' = k' n := by
  cases v <;> try exact Bool.noConfusion h
  rename_i kd z
  cases kd <;> try exact Bool.noConfusion h
  cases z with
  | negSucc n => exact Bool.noConfusion h
  | ofNat n =>
    have h' : (ifK (Nat.ble n 4611686018427387903) fun _ => k n) = true := h
    obtain ⟨h1, h2⟩ := ifK_ok h'
    exact ⟨n, rfl, Nat.le_of_ble_eq_true h1, h2, fun k' => by show (ifK (Nat.ble n 4611686018427387903) fun _ => k' n) = _; rw [h1, ifK_true]⟩
theorem okPi_ok : ∀ {ps : List (V × V)}, okPi ps = true → ∃ E : Ni, ps = toN E ∧ ∀ p ∈ E, p.1 ≤ 4611686018427387903
  | [], _ => ⟨[], rfl, fun p hp => by cases hp⟩
  | (a, v) :: r, h => by
    have h' : (natOf a fun _ => okPi r) = true := h
    obtain ⟨n, rfl, h1, h2, _⟩ := natOf_ok h'
    obtain ⟨E, rfl, e2⟩ := okPi_ok h2
    exact ⟨(n, v) :: E, rfl, fun p hp => by
      rcases List.mem_cons.1 hp with e | e
      · rw [e]; exact h1
      · exact e2 p e⟩
theorem natOf_nv {n : Nat} (h : n ≤ 4611686018427387903) (k : Nat → Bool) : natOf (nv n) k = k n := by
  show (ifK (Nat.ble n 4611686018427387903) fun _ => k n) = _
  rw [show Nat.ble n 4611686018427387903 = true by rw [Nat.ble_eq]; exact h, ifK_true]
theorem insI_ok : ∀ (L : List Nat) (a : Nat), (∀ x ∈ L, x ≤ 4611686018427387903) → (L.Pairwise fun x y => x ≤ y) → ∃ L' : List Nat, (∀ k : List V → Bool, insI a (L.map nv) k = k (L'.map nv)) ∧ L'.Perm (a :: L) ∧ L'.Pairwise fun x y => x ≤ y
  | [], a, _, hp => ⟨[a], fun _ => rfl, .refl _, List.pairwise_singleton ..⟩
  | b :: L, a, hb, hp => by
    have e : ∀ k : List V → Bool, insI a ((b :: L).map nv) k = natOf (nv b) fun m => boolK (Nat.ble a m) (fun _ => k (nv a :: nv b :: L.map nv)) fun _ => insI a (L.map nv) fun r' => k (nv b :: r') := fun _ => rfl
    obtain ⟨h1, h2⟩ := List.pairwise_cons.1 hp
    have hb1 := hb b (List.mem_cons_self ..)
    cases hab : Nat.ble a b with
    | true =>
      have hab' : a ≤ b := Nat.le_of_ble_eq_true hab
      refine ⟨a :: b :: L, fun k => by rw [e, natOf_nv hb1, hab, boolK_true]; rfl, .refl _, List.pairwise_cons.2 ⟨fun x hx => ?_, hp⟩⟩
      rcases List.mem_cons.1 hx with e1 | e1
      · rw [e1]; exact hab'
      · exact Nat.le_trans hab' (h1 x e1)
    | false =>
      have hab' : b ≤ a := by
        rcases Nat.le_total a b with h | h
        · rw [← Nat.ble_eq, hab] at h; cases h
        · exact h
      obtain ⟨L', i1, i2, i3⟩ := insI_ok L a (fun x hx => hb x (List.mem_cons_of_mem _ hx)) h2
      refine ⟨b :: L', fun k => by rw [e, natOf_nv hb1, hab, boolK_false, i1]; rfl, (i2.cons b).trans (List.Perm.swap a b L), List.pairwise_cons.2 ⟨fun x hx => ?_, i3⟩⟩
      rcases List.mem_cons.1 (i2.mem_iff.1 hx) with e1 | e1
      · rw [e1]; exact hab'
      · exact h1 x e1
theorem sortI_ok : ∀ (E : Ni), (∀ p ∈ E, p.1 ≤ 4611686018427387903) → ∃ L : List Nat, (∀ k : List V → Bool, sortI (toN E) k = k (L.map nv)) ∧ L.Perm (E.map (·.1)) ∧ L.Pairwise fun x y => x ≤ y
  | [], _ => ⟨[], fun _ => rfl, .refl _, .nil⟩
  | (a, v) :: E, hb => by
    obtain ⟨L, h1, h2, h3⟩ := sortI_ok E fun p hp => hb p (List.mem_cons_of_mem _ hp)
    have hL : ∀ x ∈ L, x ≤ 4611686018427387903 := fun x hx => by
      obtain ⟨p, hp, rfl⟩ := List.mem_map.1 (h2.mem_iff.1 hx)
      exact hb p (List.mem_cons_of_mem _ hp)
    obtain ⟨L', g1, g2, g3⟩ := insI_ok L a hL h3
    refine ⟨L', fun k => ?_, g2.trans (h2.cons a), g3⟩
    have e : sortI (toN ((a, v) :: E)) k = sortI (toN E) fun r => natOf (nv a) fun n => insI n r k := rfl
    rw [e, h1, natOf_nv (hb _ (List.mem_cons_self ..)), g1]
theorem sortI_eq (E : Ni) (hb : ∀ p ∈ E, p.1 ≤ 4611686018427387903) : ∃ L : List Nat, (∀ k : List V → Bool, sortI (toN E) k = k (L.map nv)) ∧ L.map (fun n : Nat => (n : Int)) = sortKI E := by
  obtain ⟨L, h1, h2, h3⟩ := sortI_ok E hb
  refine ⟨L, h1, ?_⟩
  unfold sortKI
  have hp : (L.map fun n : Nat => (n : Int)).Perm (E.map fun p => (p.1 : Int)) := by
    have := h2.map fun n : Nat => (n : Int)
    rwa [List.map_map] at this
  rw [← mergeSort_of_perm_i hp]
  refine (List.mergeSort_of_pairwise (List.pairwise_map.2 (h3.imp fun {a b} h => ?_))).symm
  simp only [leI, decide_eq_true_eq]
  exact Int.ofNat_le.2 h
structure MapN (h : H) (id : B) (E : Ni) : Prop where
  blk : ∃ b, h.heap.get id = some b ∧ b.min = b.cur + 7 ∧ RdP b.cells b.el (toN E)
theorem wfN {n : Nat} (hl : n ≤ 4611686018427387903) : (Lit.int .i64 (n : Int)).wf = true := by
  simp only [Lit.wf, Bool.and_eq_true, decide_eq_true_eq]
  exact ⟨by show (-9223372036854775808 : Int) ≤ n; omega, by show (n : Int) ≤ 9223372036854775807; omega⟩
theorem rd_keyI {ρ : Emb} {n : Nat} {e : MapEntry} (h : VRel ρ (nv n) e.key) (hl : n ≤ 4611686018427387903) : Go.WideElems.rd Tryz.prog 3 rNil e = some (.int .i64 (n : Int), .nil) := by
  have h1 : e.key = .int .i64 (n : Int) := h
  unfold Go.WideElems.rd
  rw [h1]
  have hw : (Lit.int .i64 (n : Int)).wf = true := wfN hl
  have : keyOf Tryz.prog 3 (.int .i64 (n : Int)) = some (.int .i64 (n : Int)) := Go.Maps.keyOf_int_mk Tryz.underlying3 hw
  rw [this]; rfl
theorem rds_keysI {ρ : Emb} : ∀ {E : Ni} {l : List MapEntry}, F2 ρ (toN E) l → (∀ p ∈ E, p.1 ≤ 4611686018427387903) → l.map (Go.WideElems.rg Tryz.prog 3 rNil) = E.map (fun p => (Lit.int .i64 (p.1 : Int), DataW.nil)) ∧ ∀ x ∈ l, ∃ y, Go.WideElems.rd Tryz.prog 3 rNil x = some y
  | [], _, .nil, _ => ⟨rfl, fun x h => by cases h⟩
  | p :: E, _, .cons a b c, hk => by
    obtain ⟨h1, h2⟩ := rds_keysI c fun q hq => hk q (List.mem_cons_of_mem _ hq)
    have h3 := rd_keyI a (hk p (List.mem_cons_self ..))
    refine ⟨?_, fun x hx => ?_⟩
    · rw [List.map_cons, List.map_cons, h1]
      unfold Go.WideElems.rg
      rw [h3]; rfl
    · rcases List.mem_cons.1 hx with rfl | hx
      · exact ⟨_, h3⟩
      · exact h2 x hx
theorem ownsMapI_of {ρ : Emb} {w : World} {b : Nat} {E : Ni} {es : Array MapEntry} {clock : Nat} (hb : w.heap[b]? = some (.map es clock)) (m : MapP ρ (toN E) es clock) (hk : ∀ p ∈ E, p.1 ≤ 4611686018427387903) (hs : es.size ≤ maxLen) :
    ∃ D0 : DataW Unit, w.ownsMap Tryz.prog 3 rNil b es.size D0 ∧ (intKeys D0).Perm (E.map fun p => (p.1 : Int)) ∧ Go.Maps.size D0 = E.length := by
  obtain ⟨l, l1, l2⟩ := m.rel
  obtain ⟨r1, r2⟩ := rds_keysI l2 hk
  have p1 : ((es.toList.map (Go.WideElems.rg Tryz.prog 3 rNil)).foldr DataW.insert []).Perm (E.map (fun p => (Lit.int .i64 (p.1 : Int), DataW.nil))) := by
    rw [← r1]
    exact (foldr_perm _).trans (l1.symm.map _)
  refine ⟨_, ⟨es, clock, hb, ⟨hs, m.st, fun x hx => r2 x (l1.mem_iff.2 hx)⟩, Nat.le_refl _, rfl⟩, ?_, ?_⟩
  · have := p1.map (fun p => _root_.Go.intOf p.1)
    refine this.trans ?_
    rw [List.map_map]
    exact .refl _
  · have := p1.length_eq
    rw [List.length_map] at this
    exact this
open Go.RowKit Go.Shelf in
theorem sortsCI (m : Nat) : AnyZI.SortsIn Tryz.prog Tryz.sorted68_ren Fence.wide m :=
  ⟨fun blk off cap ss W hH hblk hsz => callsIn_wide.2 (AnyM.slices_Sort_int Tryz.sort153 blk off cap ss W hH hblk hsz), fun p cap W => callsIn_wide.2 (AnyM.slices_Sort_int_none Tryz.sort153 p cap W)⟩
theorem sortedI_ok {h : H} {q id : B} {E : Ni} {SL : List Nat} (hSL : SL.map (fun n : Nat => (n : Int)) = sortKI E) (r : Row h q 0 0 [.m id]) (m : MapN h id E) (hk : ∀ p ∈ E, p.1 ≤ 4611686018427387903) (hE : E.length ≤ 10000) (hf : B.val h.floor ≤ B.val h.next) :
    FnOk Tryz.prog 68 [.f 154 [.p q 0 0 1]] h fun y h' => (E = [] → y = .l0 ∧ h' = h) ∧ (E ≠ [] → y = .l h.next 0 0 E.length E.length none ∧ ∀ k, alloc 3 (SL.map nv) h k = k h.next h') := by
  have main : ∀ ρ w w0 args, LRel ρ [.f 154 [.p q 0 0 1]] args → HRel ρ h w w0 →
      (callFunc 68 args.toArray).run Tryz.prog w = .ok (.enter 68 args.toArray) w ∧ Calls Tryz.prog 68 args.toArray w fun e w' => ∃ v, e = .returned v ∧
        w'.ownsRow w.heap.size 3 1 v E.length ((sortKI E).map encZ) ∧ (E = [] → v = .slice none 0 0) ∧ Go.RowKit.Below w.heap.size w w' := by
    intro ρ w w0 args hl R
    obtain ⟨x, rfl, arr, rfl, hp⟩ : ∃ x, args = [x] ∧ ∃ arr, x = .func (.func 154) #[] arr ∧ LRel ρ [.p q 0 0 1] arr.toList := by
      cases args with
      | nil => cases hl
      | cons x r =>
        obtain ⟨⟨arr, h1, h2⟩, hr⟩ := hl
        cases r with
        | cons _ _ => cases hr
        | nil => exact ⟨x, rfl, arr, h1, h2⟩
    obtain ⟨L, hL, rfl, hs⟩ : ∃ L, ρ q 0 = some L ∧ arr = #[.pointer (some ⟨L.b, 0, none⟩)] ∧ L.s = 0 ∧ 1 ≤ L.e := by
      obtain ⟨al⟩ := arr
      cases al with
      | nil => cases hp
      | cons y r =>
        obtain ⟨⟨L, h1, h2, h3, h4⟩, hr⟩ := hp
        cases r with
        | cons _ _ => cases hr
        | nil =>
          have hs : L.s = 0 := by omega
          refine ⟨L, h1, ?_, hs, h4⟩
          rw [h2, hs]
    obtain ⟨v1, e1, g1⟩ := load1_ok (h := h) (id := q) (g := 0) (off := 0) (fin := 1) (k := fun _ => true) (by rw [load1_cell (r.2 0 (.m id) rfl) (by omega)])
    have ev1 : v1 = .m id := by
      have := e1 fun u => @decide (u = .m id) (Classical.propDecidable _)
      rw [load1_cell (r.2 0 (.m id) rfl) (by omega)] at this
      simp at this
      exact this
    subst ev1
    obtain ⟨x, hx, hcell⟩ := g1 ρ w w0 L R hL (by omega) hs.2
    obtain ⟨LM, hLM, rfl⟩ := hx
    obtain ⟨blk, m1, m2, m3⟩ := m.blk
    obtain ⟨es, clock, w1, ps, w2, w3⟩ := R.mp.map id LM blk hLM m1 m2
    obtain rfl := RdP.uniq w2 m3
    obtain ⟨l, l1, l2⟩ := w3.rel
    have hes : es.size = E.length := by
      have h1 := l2.length
      have h2 := l1.length_eq
      unfold toN at h1
      rw [List.length_map] at h1
      simp at h2
      omega
    obtain ⟨D0, d1, d2, d3⟩ := ownsMapI_of w1 w3 hk (by rw [hes]; exact Nat.le_trans hE (by decide))
    have hbl : L.b < w.heap.size := by obtain ⟨_, _, _, a3, _⟩ := R.loc _ _ _ hL; exact a3
    have hseq : SeqGives Fence.wide 2 Tryz.prog 154 #[.pointer (some ⟨L.b, 0, none⟩)] encZ (fun ss => ss.Perm (intKeys D0)) (Go.Maps.size D0) w :=
      AnyZI.keys_gives (ρ := Tryz.keys69_ren) { Tryz.keys69 with } Fence.wide 2 trivial rfl (by omega) L.b LM.b es.size D0 _ hbl (by rw [hs.1] at hcell; exact hcell) d1
    have := AnyZI.sorted_in Tryz.sorted68 Fence.wide 5 trivial trivial trivial trivial rfl (by omega) (sortsCI _) (enters_of Tryz.func153 (by kernel_rfl) rfl) 154 #[.pointer (some ⟨L.b, 0, none⟩)] trivial (enters_of Tryz.func154 (by kernel_rfl) rfl) _ (Go.Maps.size D0) (by rw [d3]; exact Nat.le_trans hE (by decide)) (by rw [d3]; omega) w hseq
    refine ⟨enters_of Tryz.func68 (by kernel_rfl) rfl _ _, (callsIn_wide.1 this).mono fun e w' ⟨v, ss, e1, hS, hrow, hnil, hb⟩ => ⟨v, e1, ?_, fun hE => hnil.2 ?_, hb⟩⟩
    · have hp : ss.Perm (E.map fun p => (p.1 : Int)) := hS.trans d2
      have hl : ss.length = E.length := by rw [hp.length_eq, List.length_map]
      rw [hl, mergeSort_of_perm_i hp] at hrow
      exact hrow
    · have hp : ss.Perm (E.map fun p => (p.1 : Int)) := hS.trans d2
      rw [hE] at hp
      exact List.perm_nil.1 hp
  have hlen : SL.length = E.length := by
    have := congrArg List.length hSL
    rw [List.length_map] at this
    rw [this]; unfold sortKI; rw [List.length_mergeSort, List.length_map]
  by_cases hz : E = []
  · subst hz
    refine ⟨.l0, h, ⟨KeepF.refl h, Nat.le_refl _, fun ρ w w0 args hl R => ?_⟩, fun _ => ⟨rfl, rfl⟩, fun e => absurd rfl e⟩
    obtain ⟨c1, c2⟩ := main ρ w w0 args hl R
    refine ⟨c1, c2.mono fun e w' ⟨v, e1, hr, hn, hb⟩ => ⟨v, e1, ρ, Ext.refl _ ρ, hn rfl, R.grow hb.block hb.size hb.tape hb.os hb.output⟩⟩
  · obtain ⟨h', a1, a2, a3, blk, b1, b2, b3, b4, b5, b6, b7⟩ := alloc_new 3 (SL.map nv) h (by rw [List.length_map]; omega)
    obtain ⟨h2, c1, c2, c3, c4⟩ := adopt_ok (el := 3) (cs := SL.map nv) (h := h) (k := fun _ _ => true) (by rw [a1])
    have e2 : h2 = h' := by
      have := c1 fun _ u => @decide (u = h') (Classical.propDecidable _)
      rw [a1] at this
      simp at this
      exact this
    subst e2
    refine ⟨.l h.next 0 0 E.length E.length none, h2, ⟨c2, c3, fun ρ w w0 args hl R => ?_⟩, fun e => absurd e hz, fun _ => ⟨rfl, c1⟩⟩
    obtain ⟨d1, d2⟩ := main ρ w w0 args hl R
    refine ⟨d1, d2.mono fun e w' ⟨v, e1, hr, _, hb⟩ => ?_⟩
    have R' := R.grow hb.block hb.size hb.tape hb.os hb.output
    rcases hr.2 with ⟨_, h0⟩ | ⟨g, cap, cur, rfl, hg, hc, hn, hcap, hsz, htk⟩
    · exact absurd (List.length_eq_zero_iff.1 h0) hz
    have hval : ∀ (i : Nat) v x, (SL.map nv)[i]? = some v → cur[i]? = some x → VRel ρ v x := by
      intro i v x hv hx
      have hi : i < SL.length := by
        rcases Nat.lt_or_ge i SL.length with h | h
        · exact h
        · rw [List.getElem?_eq_none (by rw [List.length_map]; exact h)] at hv; cases hv
      have h1 : ((sortKI E).map encZ)[i]? = some x := by
        rw [← htk, List.getElem?_take_of_lt (by rw [Nat.mul_one, ← hlen]; exact hi)]
        simpa using hx
      rw [← hSL, List.map_map, List.getElem?_map, List.getElem?_eq_getElem hi] at h1
      rw [List.getElem?_map, List.getElem?_eq_getElem hi] at hv
      cases hv
      cases h1
      rfl
    obtain ⟨ρ', q1, q2, _, q3⟩ := c4 ρ w' w0 cur g cur.size _ R' hc rfl (fun id g' L hL e => by obtain ⟨_, _, _, a3, _⟩ := R.loc _ _ _ hL; omega) (Nat.le_trans R.siz hg) (by rw [List.length_map, hlen]; omega) rfl hval
    refine ⟨_, e1, ρ', q1, ⟨_, _, _, q2, rfl, hn, Nat.le_refl _, ?_, .inr rfl, fun d hd => (by cases hd), fun _ => .inr ⟨1, Nat.le_refl _, by omega, (by show 0 - 0 + cap * 1 ≤ cur.size; omega), fun d hd => (by cases hd)⟩⟩, q3⟩
    show E.length ≤ (SL.map nv).length
    rw [List.length_map, hlen]; exact Nat.le_refl _
theorem sortedI_nil {h : H} {q : B} (r : Row h q 0 0 [.m0]) :
    FnOk Tryz.prog 68 [.f 154 [.p q 0 0 1]] h fun y h' => y = .l0 ∧ h' = h := by
  refine ⟨.l0, h, ⟨KeepF.refl h, Nat.le_refl _, fun ρ w w0 args hl R => ?_⟩, rfl, rfl⟩
  obtain ⟨x, rfl, arr, rfl, hp⟩ : ∃ x, args = [x] ∧ ∃ arr, x = .func (.func 154) #[] arr ∧ LRel ρ [.p q 0 0 1] arr.toList := by
    cases args with
    | nil => cases hl
    | cons x r =>
      obtain ⟨⟨arr, h1, h2⟩, hr⟩ := hl
      cases r with
      | cons _ _ => cases hr
      | nil => exact ⟨x, rfl, arr, h1, h2⟩
  obtain ⟨L, hL, rfl, hs⟩ : ∃ L, ρ q 0 = some L ∧ arr = #[.pointer (some ⟨L.b, 0, none⟩)] ∧ L.s = 0 ∧ 1 ≤ L.e := by
    obtain ⟨al⟩ := arr
    cases al with
    | nil => cases hp
    | cons y r =>
      obtain ⟨⟨L, h1, h2, h3, h4⟩, hr⟩ := hp
      cases r with
      | cons _ _ => cases hr
      | nil =>
        have hs : L.s = 0 := by omega
        refine ⟨L, h1, ?_, hs, h4⟩
        rw [h2, hs]
  obtain ⟨v1, e1, g1⟩ := load1_ok (h := h) (id := q) (g := 0) (off := 0) (fin := 1) (k := fun _ => true) (by rw [load1_cell (r.2 0 .m0 rfl) (by omega)])
  have ev1 : v1 = .m0 := by
    have := e1 fun u => @decide (u = .m0) (Classical.propDecidable _)
    rw [load1_cell (r.2 0 .m0 rfl) (by omega)] at this
    simp at this
    exact this
  subst ev1
  obtain ⟨x, hx, hcell⟩ := g1 ρ w w0 L R hL (by omega) hs.2
  have hx : x = .map none := hx
  subst hx
  have hbl : L.b < w.heap.size := by obtain ⟨_, _, _, a3, _⟩ := R.loc _ _ _ hL; exact a3
  have hseq : SeqGives Fence.wide 2 Tryz.prog 154 #[.pointer (some ⟨L.b, 0, none⟩)] encZ (fun ss : List Int => ss = []) 0 w :=
    AnyZI.keys_gives_nil (ρ := Tryz.keys69_ren) { Tryz.keys69 with } Fence.wide 2 trivial rfl L.b w hbl (by rw [hs.1] at hcell; exact hcell)
  have := AnyZI.sorted_in Tryz.sorted68 Fence.wide 5 trivial trivial trivial trivial rfl (by omega) (sortsCI _) (enters_of Tryz.func153 (by kernel_rfl) rfl) 154 #[.pointer (some ⟨L.b, 0, none⟩)] trivial (enters_of Tryz.func154 (by kernel_rfl) rfl) _ 0 (Nat.zero_le _) (by omega) w hseq
  exact ⟨enters_of Tryz.func68 (by kernel_rfl) rfl _ _, (callsIn_wide.1 this).mono fun e w' ⟨v, ss, e1, hS, hrow, hnil, hb⟩ => ⟨v, e1, ρ, Ext.refl _ ρ, hnil.2 hS, R.grow hb.block hb.size hb.tape hb.os hb.output⟩⟩
theorem mapN_of {h : H} {id : B} {k : B → B → T Blk → Nat → Nat → Nat → Nat → List (V × V) → Bool} (hk : mapK h id k = true) : ∃ next floor heap cur min size fr ps, (∀ k', mapK h id k' = k' next floor heap cur min size fr ps) ∧ k next floor heap cur min size fr ps = true ∧
    ∀ E, ps = toN E → MapN h id E := by
  obtain ⟨next, floor, heap, cur, min, size, cells, n, fr, ps, rfl, hb, hm, hp, hK⟩ := mapK_ok hk
  refine ⟨next, floor, heap, cur, min, size, fr, ps, hK, by rw [← hK k]; exact hk, fun E e => ⟨⟨_, hb, hm, by rw [← e]; exact hp⟩⟩⟩
theorem sortedI_sp : SpOk Tryz.prog 68 (sortedIS 154 3) := by
  refine sp_of_fn fun vs h k hk => ?_
  cases vs with
  | nil => exact Bool.noConfusion hk
  | cons v r =>
  cases r with
  | cons _ _ => exact Bool.noConfusion hk
  | nil =>
  have e : ∀ k', sortedIS 154 3 [v] h k' = vF v fun f cs => ifK (Nat.beq f 154) fun _ => sortedI1 3 cs h k' := fun _ => rfl
  rw [e] at hk
  obtain ⟨f, cs, hv, hk1⟩ := vF_ok hk
  subst hv
  clear hk
  obtain ⟨hf, hk⟩ := ifK_ok hk1
  clear hk1
  obtain rfl : f = 154 := Nat.eq_of_beq_eq_true hf
  cases cs with
  | nil => exact Bool.noConfusion hk
  | cons p r =>
  cases r with
  | cons _ _ => exact Bool.noConfusion hk
  | nil =>
  have e2 : ∀ k', sortedI1 3 [p] h k' = vP p fun q g off fin => ifK (Nat.beq g 0) fun _ => ifK (Nat.beq off 0) fun _ => ifK (Nat.beq fin 1) fun _ => load1 h q 0 0 1 fun m => sortedI2 3 m h k' := fun _ => rfl
  rw [e2] at hk
  obtain ⟨q, g, off, fin, hv, hk1⟩ := vP_ok hk
  subst hv
  clear hk
  obtain ⟨h1, hk2⟩ := ifK_ok hk1
  clear hk1
  obtain ⟨h2, hk3⟩ := ifK_ok hk2
  clear hk2
  obtain ⟨h3, hk⟩ := ifK_ok hk3
  clear hk3
  obtain rfl : g = 0 := Nat.eq_of_beq_eq_true h1
  obtain rfl : off = 0 := Nat.eq_of_beq_eq_true h2
  obtain rfl : fin = 1 := Nat.eq_of_beq_eq_true h3
  have hrow : ∃ m, Row h q 0 0 [m] ∧ ∀ k' : V → Bool, load1 h q 0 0 1 k' = k' m := by
    obtain ⟨next, floor, heap⟩ := h
    simp only [load1, hK_mk] at hk
    obtain ⟨⟨cur, min, size, cells, bel, fr⟩, hb, hk⟩ := optK_ok hk
    simp only [blkK_mk] at hk
    obtain ⟨hm, hk⟩ := ifK_ok hk
    obtain ⟨hf, hk⟩ := ifK_ok hk
    obtain ⟨m, hm2, hk⟩ := optK_ok hk
    refine ⟨m, ⟨fun _ => ⟨_, hb, Nat.le_of_ble_eq_true hm⟩, fun i y hy => ?_⟩, fun k' => by simp only [load1, hK_mk, hb, optK_some, blkK_mk, hm, ifK_true, hf, hm2, forceV_eq]⟩
    have hi : i = 0 := by
      have := (List.getElem?_eq_some_iff.1 hy).1; simp at this; exact this
    subst hi
    cases hy
    unfold cell cellB
    simp only [hb]
    rw [if_pos (Nat.le_of_ble_eq_true hm)]
    exact hm2
  obtain ⟨m, hr, hl⟩ := hrow
  rw [hl] at hk
  have e3 : ∀ k', sortedIS 154 3 [.f 154 [.p q 0 0 1]] h k' = sortedI2 3 m h k' := fun k' => by
    rw [e, vF_f, hf, ifK_true, e2]
    exact hl _
  cases m <;> try exact Bool.noConfusion hk
  · refine (sortedI_nil hr).mono ?_
    rintro y h' ⟨rfl, rfl⟩ k'
    rw [e3]; rfl
  · rename_i mid
    have e4 : ∀ k', sortedI2 3 (.m mid) h k' = (ifK (Nat.ble (B.val mid + 1) (B.val h.next)) fun _ => ifK (Nat.ble (B.val h.floor) (B.val h.next)) fun _ => mapK h mid fun _ _ _ _ _ _ _ ps => ifK (okPi ps) fun _ => ifK (Nat.ble ps.length 10000) fun _ => sortI ps fun vs => natC vs.length (fun _ => k' .l0 h) fun n => alloc 3 vs h fun id h => k' (.l id 0 0 n n none) h) := fun _ => rfl
    rw [e4] at hk
    obtain ⟨hlt, hk1⟩ := ifK_ok hk
    obtain ⟨hfl, hk2⟩ := ifK_ok hk1
    obtain ⟨next, floor, heap, cur, min, size, fr, ps, q1, q2, q3⟩ := mapN_of hk2
    obtain ⟨hok, q2⟩ := ifK_ok q2
    obtain ⟨hps, q2⟩ := ifK_ok q2
    obtain ⟨E, rfl, n2⟩ := okPi_ok hok
    obtain ⟨SL, g1, g2⟩ := sortI_eq E n2
    have hE : E.length ≤ 10000 := by
      have := Nat.le_of_ble_eq_true hps
      unfold toN at this
      rwa [List.length_map] at this
    refine (sortedI_ok g2 hr (q3 E rfl) n2 hE (Nat.le_of_ble_eq_true hfl)).mono ?_
    rintro y h' ⟨z0, z1⟩ k'
    rw [e3, e4, hlt, ifK_true, hfl, ifK_true, q1, hok, ifK_true, hps, ifK_true, g1]
    have hlen : (SL.map nv).length = E.length := by
      have := congrArg List.length g2
      rw [List.length_map] at this
      rw [List.length_map, this]; unfold sortKI; rw [List.length_mergeSort, List.length_map]
    rw [hlen]
    cases E with
    | nil => obtain ⟨rfl, rfl⟩ := z0 rfl; rfl
    | cons p r =>
      obtain ⟨rfl, a1⟩ := z1 (by simp)
      show alloc 3 _ h _ = _
      rw [a1]; rfl
end Go.Proofs.YtiokhkainaodnaaGreatDoor

set_option linter.all false
namespace Go.Ev
open Go
theorem u8_nat {a : Int} (h : (Lit.int .u8 a).wf = true) : ∃ n : Nat, n ≤ 255 ∧ a = (n : Int) := by
  have h' := h
  simp only [Lit.wf, IntKind.has, IntKind.min, IntKind.max, IntKind.signed, IntKind.bits] at h'
  simp at h'
  exact ⟨a.toNat, by omega, by omega⟩
/-- a uint8 of which only its rest by m matters -/
theorem arg_r {a : Int} (h : (Lit.int .u8 a).wf = true) (m : Nat) (hm : 0 < m) : ∃ i, i < m ∧ VRel noEmb (.r .u8 m i 255) (.int .u8 a) := by
  obtain ⟨n, hn, rfl⟩ := u8_nat h
  exact ⟨n % m, Nat.mod_lt _ hm, n, rfl, rfl, hn⟩
theorem arg_b (x : Bool) : VRel noEmb (.b x) (.bool x) := rfl
/-- a bool that does not matter if another one is true -/
def unB : Bool → Bool → V
  | true, _ => .u
  | false, y => .b y
theorem arg_u (x y : Bool) : VRel noEmb (unB x y) (.bool y) := by cases x <;> first | trivial | rfl
section
open Go.RowKit Go.WideShapes Go.ChangeShapes
variable {H : Type} {enc : TypeId × Value → H} {P : Program}
/-- THE ROW's LAST STEP, where of what was there nothing turned (new blocks may be frozen). -/
theorem post_kept {f : Func} {s : ChangeSpec} {apart fresh handsOn again : Bool} {W W' : World} {args : Array Value} {v : Value} {ds gs : List (DataW H)} {before pa pv : List MemPlace} (hb : Below W.heap.size W W')
    (hW : DataW.Whole enc P f.params.toList s.vars apart W args.toList ds gs before)
    (hres : ∀ (b : Nat) (sp : Nat → Bool) (hd : Bool), DataW.TrodAll enc P W' b sp hd f.resultTypes.toList (v.resultList f.resultTypes.size) (s.fn H (ds ++ gs)).results [])
    (hargs : ∀ sp : Nat → Bool, (∀ p ∈ before, sp p.block = true) → DataW.TrodAll enc P W' 0 sp true f.params.toList args.toList (s.fn H (ds ++ gs)).args pa)
    (hvars : ∀ sp : Nat → Bool, (∀ p ∈ before, sp p.block = true) → DataW.TrodVars enc P W' sp s.vars (s.fn H (ds ++ gs)).vars pv)
    (hps : before = pa ++ pv)
    (hok : ∀ (j : Nat) (t : TypeId) (r : Value), f.resultTypes[j]? = some t → (v.resultList f.resultTypes.size)[j]? = some r → Value.okWide P W' .any 0 t r) :
    s.post enc P f apart fresh handsOn again W args v W' := by
  have hlt := fun p hp => hW.lt p hp
  have hin : ∀ p ∈ before, (fun b => decide (b < W.heap.size)) p.block = true := fun p hp => decide_eq_true (hlt p hp)
  have hkept := hb.frame (· ∈ before)
  refine ⟨ds, gs, before, [], pa, pv, hW, hres _ _ _, hargs _ hin, hvars _ hin, World.keptBut_mono (fun p hp => ⟨hp, ?_⟩) hkept, fun _ => ?_⟩
  · have := hps ▸ hp
    exact .inr (List.mem_append.1 this)
  · obtain ⟨_, _, _, _, _, hz, hn⟩ := hW
    refine ⟨hok, _, _, ([] ++ pa) ++ pv, ⟨[] ++ pa, pv, trodAll_append (hargs _ fun _ _ => rfl) (hres _ _ _), hvars _ fun _ _ => rfl, rfl, fun b off hp => ?_, fun ha => ?_⟩, fun p hp _ => ?_⟩
    · have hp' : MemPlace.cell b off ∈ before := by rw [hps]; simpa using hp
      rw [hb.frozen (hlt _ hp')]
      exact hz b off hp'
    · have hn' := hn ha
      rw [hps] at hn'
      simpa using hn'
    · rw [hps]; simpa using hp
end
end Go.Ev

set_option linter.all false
namespace Go.Ev
open Go
/-- a function that is laid out ahead -/
inductive W (α : Type) where | mk (f : α)
noncomputable def W.on {α β : Type} (w : W α) (f : α → W β) : W β := W.rec f w
noncomputable def W.out {α : Type} (w : W α) : α := W.rec (fun f => f) w
noncomputable def W.cr {α : Type} (w : W α) (f : α → CR) : CR := W.rec f w
abbrev E := List V
noncomputable def lgQ {α : Type} (l : List α) : Nat → Option α := List.rec (fun _ => none) (fun a _ ih n => Nat.rec (some a) (fun m _ => ih m) n) l
noncomputable def tyQ (P : Program) (t : Nat) : Option Ty := match lgQ P.types.toList t with
  | none => none
  | some i => match i.desc with
    | .named _ u => match lgQ P.types.toList u with
      | none => none
      | some j => some ⟨i.size, i.bytes, j.desc, zeroOf i.zero⟩
    | d => some ⟨i.size, i.bytes, d, zeroOf i.zero⟩
abbrev Gq := F → E → (V → Bool) → Bool
abbrev Rv := CallF → F → E → H → (V → H → Bool) → Bool
abbrev Pq := V → F → (F → Bool) → Bool
noncomputable def gq0 (s : S8) : W (F8 V → (V → Bool) → Bool) :=
  S8.rec ⟨fun x k => F8.rec (fun a _ _ _ _ _ _ _ k => k a) x k⟩ ⟨fun x k => F8.rec (fun _ b _ _ _ _ _ _ k => k b) x k⟩ ⟨fun x k => F8.rec (fun _ _ c _ _ _ _ _ k => k c) x k⟩ ⟨fun x k => F8.rec (fun _ _ _ d _ _ _ _ k => k d) x k⟩ ⟨fun x k => F8.rec (fun _ _ _ _ e _ _ _ k => k e) x k⟩ ⟨fun x k => F8.rec (fun _ _ _ _ _ f _ _ k => k f) x k⟩ ⟨fun x k => F8.rec (fun _ _ _ _ _ _ g _ k => k g) x k⟩ ⟨fun x k => F8.rec (fun _ _ _ _ _ _ _ h k => k h) x k⟩ s
noncomputable def gq1 {α : Type} (s : S8) : (α → (V → Bool) → Bool) → W (F8 α → (V → Bool) → Bool) :=
  S8.rec (fun m => ⟨fun x k => F8.rec (fun a _ _ _ _ _ _ _ k => m a k) x k⟩) (fun m => ⟨fun x k => F8.rec (fun _ b _ _ _ _ _ _ k => m b k) x k⟩) (fun m => ⟨fun x k => F8.rec (fun _ _ c _ _ _ _ _ k => m c k) x k⟩) (fun m => ⟨fun x k => F8.rec (fun _ _ _ d _ _ _ _ k => m d k) x k⟩) (fun m => ⟨fun x k => F8.rec (fun _ _ _ _ e _ _ _ k => m e k) x k⟩) (fun m => ⟨fun x k => F8.rec (fun _ _ _ _ _ f _ _ k => m f k) x k⟩) (fun m => ⟨fun x k => F8.rec (fun _ _ _ _ _ _ g _ k => m g k) x k⟩) (fun m => ⟨fun x k => F8.rec (fun _ _ _ _ _ _ _ h k => m h k) x k⟩) s
noncomputable def gq2 {α : Type} (s : S8) : (α → (V → Bool) → Bool) → W (F8 α → E → (V → Bool) → Bool) :=
  S8.rec (fun m => ⟨fun x _ k => F8.rec (fun a _ _ _ _ _ _ _ k => m a k) x k⟩) (fun m => ⟨fun x _ k => F8.rec (fun _ b _ _ _ _ _ _ k => m b k) x k⟩) (fun m => ⟨fun x _ k => F8.rec (fun _ _ c _ _ _ _ _ k => m c k) x k⟩) (fun m => ⟨fun x _ k => F8.rec (fun _ _ _ d _ _ _ _ k => m d k) x k⟩) (fun m => ⟨fun x _ k => F8.rec (fun _ _ _ _ e _ _ _ k => m e k) x k⟩) (fun m => ⟨fun x _ k => F8.rec (fun _ _ _ _ _ f _ _ k => m f k) x k⟩) (fun m => ⟨fun x _ k => F8.rec (fun _ _ _ _ _ _ g _ k => m g k) x k⟩) (fun m => ⟨fun x _ k => F8.rec (fun _ _ _ _ _ _ _ h k => m h k) x k⟩) s
noncomputable def pq0 (s : S8) : W (V → F8 V → (F8 V → Bool) → Bool) :=
  S8.rec ⟨fun v x k => F8.rec (fun _ b c d e f g h v k => k ⟨v, b, c, d, e, f, g, h⟩) x v k⟩ ⟨fun v x k => F8.rec (fun a _ c d e f g h v k => k ⟨a, v, c, d, e, f, g, h⟩) x v k⟩ ⟨fun v x k => F8.rec (fun a b _ d e f g h v k => k ⟨a, b, v, d, e, f, g, h⟩) x v k⟩ ⟨fun v x k => F8.rec (fun a b c _ e f g h v k => k ⟨a, b, c, v, e, f, g, h⟩) x v k⟩ ⟨fun v x k => F8.rec (fun a b c d _ f g h v k => k ⟨a, b, c, d, v, f, g, h⟩) x v k⟩ ⟨fun v x k => F8.rec (fun a b c d e _ g h v k => k ⟨a, b, c, d, e, v, g, h⟩) x v k⟩ ⟨fun v x k => F8.rec (fun a b c d e f _ h v k => k ⟨a, b, c, d, e, f, v, h⟩) x v k⟩ ⟨fun v x k => F8.rec (fun a b c d e f g _ v k => k ⟨a, b, c, d, e, f, g, v⟩) x v k⟩ s
noncomputable def pq1 {α : Type} (s : S8) : (V → α → (α → Bool) → Bool) → W (V → F8 α → (F8 α → Bool) → Bool) :=
  S8.rec (fun m => ⟨fun v x k => F8.rec (fun a b c d e f g h v k => m v a (fun q => k ⟨q, b, c, d, e, f, g, h⟩)) x v k⟩) (fun m => ⟨fun v x k => F8.rec (fun a b c d e f g h v k => m v b (fun q => k ⟨a, q, c, d, e, f, g, h⟩)) x v k⟩) (fun m => ⟨fun v x k => F8.rec (fun a b c d e f g h v k => m v c (fun q => k ⟨a, b, q, d, e, f, g, h⟩)) x v k⟩) (fun m => ⟨fun v x k => F8.rec (fun a b c d e f g h v k => m v d (fun q => k ⟨a, b, c, q, e, f, g, h⟩)) x v k⟩) (fun m => ⟨fun v x k => F8.rec (fun a b c d e f g h v k => m v e (fun q => k ⟨a, b, c, d, q, f, g, h⟩)) x v k⟩) (fun m => ⟨fun v x k => F8.rec (fun a b c d e f g h v k => m v f (fun q => k ⟨a, b, c, d, e, q, g, h⟩)) x v k⟩) (fun m => ⟨fun v x k => F8.rec (fun a b c d e f g h v k => m v g (fun q => k ⟨a, b, c, d, e, f, q, h⟩)) x v k⟩) (fun m => ⟨fun v x k => F8.rec (fun a b c d e f g h v k => m v h (fun q => k ⟨a, b, c, d, e, f, g, q⟩)) x v k⟩) s
noncomputable def gq (s : Sl) : W Gq := Sl.rec (fun x y z => W.on (gq0 z) fun m => W.on (gq1 y m) fun m => gq2 x m) s
noncomputable def pq (s : Sl) : W Pq := Sl.rec (fun x y z => W.on (pq0 z) fun m => W.on (pq1 y m) fun m => pq1 x m) s
noncomputable def oQ (o : O) : W Gq := O.rec (fun s => gq s) (fun v => ⟨fun _ _ k => k v⟩) o
/-- of what is at hand -/
noncomputable def lQ (j : Nat) : W Gq := Nat.rec ⟨fun _ e k => List.rec (fun _ => false) (fun v _ _ k => k v) e k⟩ (fun _ ih => W.on ih fun m => ⟨fun t e k => List.rec (fun _ _ => false) (fun _ e _ t k => m t e k) e t k⟩) j
abbrev Al := List (Nat × Operand)
/-- where among those at hand, counted from there on -/
noncomputable def idxN (n : Nat) (l : List Nat) : Nat → Option Nat := List.rec (fun _ => none) (fun m _ ih j => Bool.rec (fun ih j => ih (Nat.succ j)) (fun _ j => some j) (Nat.beq m n) ih j) l
noncomputable def lookA (n : Nat) (l : Al) : Option Operand := List.rec none (fun p _ ih => Prod.rec (fun m y ih => Bool.rec (fun _ ih => ih) (fun y _ => some y) (Nat.beq m n) y ih) p ih) l
noncomputable def bQ (ls : List Nat) (x : Operand) : W Gq := Operand.rec (fun n => Option.rec (oQ (compO (.tmp n))) lQ (idxN n ls 0)) (fun v => oQ (compO (.const v))) (fun g => oQ (compO (.global g))) (fun f => oQ (compO (.func f))) x
noncomputable def tgt (al : Al) (x : Operand) : Operand := Operand.rec (fun n => Option.rec (.tmp n) (fun y => y) (lookA n al)) .const .global .func x
noncomputable def rQ (ls : List Nat) (al : Al) (x : Operand) : W Gq := bQ ls (tgt al x)
noncomputable def dQ (d : D) : W Pq := D.rec ⟨fun _ t k => k t⟩ (fun s => pq s) ⟨fun _ _ _ => false⟩ d
noncomputable def bAnd (a b : Bool) : Bool := Bool.rec false b a
noncomputable def kB (b : Bool) (h : H) (k : V → H → Bool) : Bool := Bool.rec (fun h k => k (.b false) h) (fun h k => k (.b true) h) b h k
noncomputable def frcQ (h : H) (k : V → H → Bool) (v : V) : Bool :=
  V.rec (motive_1 := fun _ => H → (V → H → Bool) → Bool) (motive_2 := fun _ => Unit) (fun h k => k .u h) (fun x1 h k => k (.b x1) h) (fun kd1 n1 h k => k (.i kd1 n1) h) (fun kd1 m1 r1 hi1 h k => k (.r kd1 m1 r1 hi1) h) (fun len1 n1 h k => k (.s len1 n1) h) (fun h k => k .p0 h) (fun id1 g1 off1 fin1 h k => k (.p id1 g1 off1 fin1) h) (fun h k => k .l0 h) (fun id1 g1 off1 len1 fin1 cap1 h k => k (.l id1 g1 off1 len1 fin1 cap1) h) (fun cs1 _ h k => k (.a cs1) h) (fun cs1 _ h k => k (.tu cs1) h) (fun h k => k .f0 h) (fun fn1 cs1 _ h k => k (.f fn1 cs1) h) (fun h k => k .x0 h) (fun t1 v1 _ h k => k (.x t1 v1) h) (fun h k => k .m0 h) (fun id1 h k => k (.m id1) h) (fun h k => k .c0 h) (fun id1 h k => k (.c id1) h) () (fun _ _ _ _ => ()) v h k
noncomputable def fpQ (n : Nat) (id : B) (g fin : Nat) (h : H) (k : V → H → Bool) : Bool := Nat.rec (fun id g fin h k => k (.p id g 0 fin) h) (fun m _ id g fin h k => k (.p id g (Nat.succ m) fin) h) n id g fin h k
noncomputable def fiQ (n : Nat) (kd : IntKind) (h : H) (k : V → H → Bool) : Bool := Nat.rec (fun kd h k => k (.i kd (.ofNat 0)) h) (fun m _ kd h k => k (.i kd (.ofNat (Nat.succ m))) h) n kd h k
noncomputable def mxQ (kd : IntKind) : Nat := IntKind.rec 127 32767 2147483647 9223372036854775807 255 65535 4294967295 18446744073709551615 kd
noncomputable def ldC (o : Option V) (h : H) (k : V → H → Bool) : Bool := Option.rec (fun _ _ => false) (fun v h k => frcQ h k v) o h k
noncomputable def ldB (o : Option Blk) (g off fin : Nat) (h : H) (k : V → H → Bool) : Bool :=
  Option.rec (fun _ _ _ _ _ => false) (fun b g off fin h k => Blk.rec (fun _ min _ cells _ _ g off fin h k => Bool.rec (fun _ _ _ _ => false) (fun cells off h k => ldC (T.getN cells off) h k) (bAnd (Nat.ble min g) (Nat.ble (Nat.succ off) fin)) cells off h k) b g off fin h k) o g off fin h k
noncomputable def ldP (id : B) (g off fin : Nat) (h : H) (k : V → H → Bool) : Bool :=
  H.rec (fun n f heap id g off fin k => ldB (T.get heap id) g off fin ⟨n, f, heap⟩ k) h id g off fin k
noncomputable def ldV (h : H) (k : V → H → Bool) (v : V) : Bool :=
  V.rec (motive_1 := fun _ => H → (V → H → Bool) → Bool) (motive_2 := fun _ => Unit) (fun _ _ => false) (fun _ _ _ => false) (fun _ _ _ _ => false) (fun _ _ _ _ _ _ => false) (fun _ _ _ _ => false) (fun _ _ => false) (fun id g off fin h k => ldP id g off fin h k) (fun _ _ => false) (fun _ _ _ _ _ _ _ _ => false) (fun _ _ _ _ => false) (fun _ _ _ _ => false) (fun _ _ => false) (fun _ _ _ _ _ => false) (fun _ _ => false) (fun _ _ _ _ _ => false) (fun _ _ => false) (fun _ _ _ => false) (fun _ _ => false) (fun _ _ _ => false) () (fun _ _ _ _ => ()) v h k
noncomputable def faV (d : Nat) (h : H) (k : V → H → Bool) (v : V) : Bool :=
  V.rec (motive_1 := fun _ => Nat → H → (V → H → Bool) → Bool) (motive_2 := fun _ => Unit) (fun _ _ _ => false) (fun _ _ _ _ => false) (fun _ _ _ _ _ => false) (fun _ _ _ _ _ _ _ => false) (fun _ _ _ _ _ => false) (fun _ _ _ => false) (fun id g off fin d h k => fpQ (Nat.add off d) id g fin h k) (fun _ _ _ => false) (fun _ _ _ _ _ _ _ _ _ => false) (fun _ _ _ _ _ => false) (fun _ _ _ _ _ => false) (fun _ _ _ => false) (fun _ _ _ _ _ _ => false) (fun _ _ _ => false) (fun _ _ _ _ _ _ => false) (fun _ _ _ => false) (fun _ _ _ _ => false) (fun _ _ _ => false) (fun _ _ _ _ => false) () (fun _ _ _ _ => ()) v d h k
noncomputable def ncV (h : H) (k : V → H → Bool) (v : V) : Bool :=
  V.rec (motive_1 := fun _ => H → (V → H → Bool) → Bool) (motive_2 := fun _ => Unit) (fun _ _ => false) (fun _ _ _ => false) (fun _ _ _ _ => false) (fun _ _ _ _ _ _ => false) (fun _ _ _ _ => false) (fun _ _ => false) (fun id g off fin h k => k (.p id g off fin) h) (fun _ _ => false) (fun _ _ _ _ _ _ _ _ => false) (fun _ _ _ _ => false) (fun _ _ _ _ => false) (fun _ _ => false) (fun _ _ _ _ _ => false) (fun _ _ => false) (fun _ _ _ _ _ => false) (fun _ _ => false) (fun _ _ _ => false) (fun _ _ => false) (fun _ _ _ => false) () (fun _ _ _ _ => ()) v h k
noncomputable def ixI (y : V) (size : Nat) (id : B) (g : Nat) (off : Nat) (len : Nat) (fin : Nat) (h : H) (k : V → H → Bool) : Bool :=
  V.rec (motive_1 := fun _ => Nat → B → Nat → Nat → Nat → Nat → H → (V → H → Bool) → Bool) (motive_2 := fun _ => Unit) (fun _ _ _ _ _ _ _ _ => false) (fun _ _ _ _ _ _ _ _ _ => false) (fun _ n size id g off len fin h k => Int.rec (fun n size id g off len fin h k => Bool.rec (fun _ _ _ _ _ _ _ _ => false) (fun n size id g off fin h k => fpQ (Nat.add off (Nat.mul n size)) id g fin h k) (Nat.ble (Nat.succ n) len) n size id g off fin h k) (fun _ _ _ _ _ _ _ _ _ => false) n size id g off len fin h k) (fun _ _ _ _ _ _ _ _ _ _ _ _ => false) (fun _ _ _ _ _ _ _ _ _ _ => false) (fun _ _ _ _ _ _ _ _ => false) (fun _ _ _ _ _ _ _ _ _ _ _ _ => false) (fun _ _ _ _ _ _ _ _ => false) (fun _ _ _ _ _ _ _ _ _ _ _ _ _ _ => false) (fun _ _ _ _ _ _ _ _ _ _ => false) (fun _ _ _ _ _ _ _ _ _ _ => false) (fun _ _ _ _ _ _ _ _ => false) (fun _ _ _ _ _ _ _ _ _ _ _ => false) (fun _ _ _ _ _ _ _ _ => false) (fun _ _ _ _ _ _ _ _ _ _ _ => false) (fun _ _ _ _ _ _ _ _ => false) (fun _ _ _ _ _ _ _ _ _ => false) (fun _ _ _ _ _ _ _ _ => false) (fun _ _ _ _ _ _ _ _ _ => false) () (fun _ _ _ _ => ()) y size id g off len fin h k
noncomputable def ixL (size : Nat) (v : V) (h : H) (k : V → H → Bool) (y : V) : Bool :=
  V.rec (motive_1 := fun _ => Nat → V → H → (V → H → Bool) → Bool) (motive_2 := fun _ => Unit) (fun _ _ _ _ => false) (fun _ _ _ _ _ => false) (fun _ _ _ _ _ _ => false) (fun _ _ _ _ _ _ _ _ => false) (fun _ _ _ _ _ _ => false) (fun _ _ _ _ => false) (fun _ _ _ _ _ _ _ _ => false) (fun _ _ _ _ => false) (fun id g off len fin _ size y h k => ixI y size id g off len fin h k) (fun _ _ _ _ _ _ => false) (fun _ _ _ _ _ _ => false) (fun _ _ _ _ => false) (fun _ _ _ _ _ _ _ => false) (fun _ _ _ _ => false) (fun _ _ _ _ _ _ _ => false) (fun _ _ _ _ => false) (fun _ _ _ _ _ => false) (fun _ _ _ _ => false) (fun _ _ _ _ _ => false) () (fun _ _ _ _ => ()) v size y h k
noncomputable def ixA (len : Nat) (size : Nat) (v : V) (h : H) (k : V → H → Bool) (y : V) : Bool :=
  V.rec (motive_1 := fun _ => Nat → Nat → V → H → (V → H → Bool) → Bool) (motive_2 := fun _ => Unit) (fun _ _ _ _ _ => false) (fun _ _ _ _ _ _ => false) (fun _ _ _ _ _ _ _ => false) (fun _ _ _ _ _ _ _ _ _ => false) (fun _ _ _ _ _ _ _ => false) (fun _ _ _ _ _ => false) (fun id g off fin len size y h k => ixI y size id g off len fin h k) (fun _ _ _ _ _ => false) (fun _ _ _ _ _ _ _ _ _ _ _ => false) (fun _ _ _ _ _ _ _ => false) (fun _ _ _ _ _ _ _ => false) (fun _ _ _ _ _ => false) (fun _ _ _ _ _ _ _ _ => false) (fun _ _ _ _ _ => false) (fun _ _ _ _ _ _ _ _ => false) (fun _ _ _ _ _ => false) (fun _ _ _ _ _ _ => false) (fun _ _ _ _ _ => false) (fun _ _ _ _ _ _ => false) () (fun _ _ _ _ => ()) v len size y h k
abbrev Bq := IntKind → Int → Int → H → (V → H → Bool) → Bool
noncomputable def kdQ (a b : IntKind) : Bool :=
  IntKind.rec (fun b => IntKind.rec true false false false false false false false b) (fun b => IntKind.rec false true false false false false false false b) (fun b => IntKind.rec false false true false false false false false b) (fun b => IntKind.rec false false false true false false false false b)
   (fun b => IntKind.rec false false false false true false false false b) (fun b => IntKind.rec false false false false false true false false b) (fun b => IntKind.rec false false false false false false true false b) (fun b => IntKind.rec false false false false false false false true b) a b
noncomputable def b2y (y : V) (q : Bq) (kd : IntKind) (a : Int) (h : H) (k : V → H → Bool) : Bool :=
  V.rec (motive_1 := fun _ => Bq → IntKind → Int → H → (V → H → Bool) → Bool) (motive_2 := fun _ => Unit) (fun _ _ _ _ _ => false) (fun _ _ _ _ _ _ => false) (fun kd1 b q kd a h k => Bool.rec (fun _ _ _ _ _ _ => false) (fun q kd a b h k => q kd a b h k) (kdQ kd kd1) q kd a b h k) (fun _ _ _ _ _ _ _ _ _ => false) (fun _ _ _ _ _ _ _ => false) (fun _ _ _ _ _ => false) (fun _ _ _ _ _ _ _ _ _ => false) (fun _ _ _ _ _ => false) (fun _ _ _ _ _ _ _ _ _ _ _ => false) (fun _ _ _ _ _ _ _ => false) (fun _ _ _ _ _ _ _ => false) (fun _ _ _ _ _ => false) (fun _ _ _ _ _ _ _ _ => false) (fun _ _ _ _ _ => false) (fun _ _ _ _ _ _ _ _ => false) (fun _ _ _ _ _ => false) (fun _ _ _ _ _ _ => false) (fun _ _ _ _ _ => false) (fun _ _ _ _ _ _ => false) () (fun _ _ _ _ => ()) y q kd a h k
noncomputable def b2x (q : Bq) (x : V) (h : H) (k : V → H → Bool) (y : V) : Bool :=
  V.rec (motive_1 := fun _ => Bq → V → H → (V → H → Bool) → Bool) (motive_2 := fun _ => Unit) (fun _ _ _ _ => false) (fun _ _ _ _ _ => false) (fun kd a q y h k => b2y y q kd a h k) (fun _ _ _ _ _ _ _ _ => false) (fun _ _ _ _ _ _ => false) (fun _ _ _ _ => false) (fun _ _ _ _ _ _ _ _ => false) (fun _ _ _ _ => false) (fun _ _ _ _ _ _ _ _ _ _ => false) (fun _ _ _ _ _ _ => false) (fun _ _ _ _ _ _ => false) (fun _ _ _ _ => false) (fun _ _ _ _ _ _ _ => false) (fun _ _ _ _ => false) (fun _ _ _ _ _ _ _ => false) (fun _ _ _ _ => false) (fun _ _ _ _ _ => false) (fun _ _ _ _ => false) (fun _ _ _ _ _ => false) () (fun _ _ _ _ => ()) x q y h k
noncomputable def wrQ (s : Nat) (kd : IntKind) (h : H) (k : V → H → Bool) : Bool :=
  Bool.rec (fun s kd h k => forceI (kd.wrap (.ofNat s)) fun n => k (.i kd n) h) (fun s kd h k => fiQ s kd h k) (Nat.ble s (mxQ kd)) s kd h k
noncomputable def oldQ (f : BinF) : Bq := fun kd a b h k => f kd a b fun v => k v h
noncomputable def addQ : Bq := fun kd a b h k =>
  Int.rec (fun m b kd h k => Int.rec (fun n m kd h k => wrQ (Nat.add m n) kd h k) (fun n m kd h k => oldQ fAdd kd (.ofNat m) (.negSucc n) h k) b m kd h k) (fun m b kd h k => oldQ fAdd kd (.negSucc m) b h k) a b kd h k
noncomputable def subQ : Bq := fun kd a b h k =>
  Int.rec (fun m b kd h k => Int.rec (fun n m kd h k => Bool.rec (fun n m kd h k => oldQ fSub kd (.ofNat m) (.ofNat n) h k) (fun n m kd h k => wrQ (Nat.sub m n) kd h k) (Nat.ble n m) n m kd h k) (fun n m kd h k => oldQ fSub kd (.ofNat m) (.negSucc n) h k) b m kd h k) (fun m b kd h k => oldQ fSub kd (.negSucc m) b h k) a b kd h k
noncomputable def mulQ : Bq := fun kd a b h k =>
  Int.rec (fun m b kd h k => Int.rec (fun n m kd h k => wrQ (Nat.mul m n) kd h k) (fun n m kd h k => oldQ fMul kd (.ofNat m) (.negSucc n) h k) b m kd h k) (fun m b kd h k => oldQ fMul kd (.negSucc m) b h k) a b kd h k
noncomputable def ltQ (a b : Int) : Bool := Int.rec (fun m b => Int.rec (fun n m => Nat.ble (Nat.succ m) n) (fun _ _ => false) b m) (fun m b => Int.rec (fun _ _ => true) (fun n m => Nat.ble (Nat.succ n) m) b m) a b
noncomputable def eqQ (a b : Int) : Bool := Int.rec (fun m b => Int.rec (fun n m => Nat.beq m n) (fun _ _ => false) b m) (fun m b => Int.rec (fun _ _ => false) (fun n m => Nat.beq m n) b m) a b
noncomputable def notQ (a : Bool) : Bool := Bool.rec true false a
noncomputable def lssQ : Bq := fun _ a b h k => kB (ltQ a b) h k
noncomputable def gtrQ : Bq := fun _ a b h k => kB (ltQ b a) h k
noncomputable def leqQ : Bq := fun _ a b h k => kB (notQ (ltQ b a)) h k
noncomputable def geqQ : Bq := fun _ a b h k => kB (notQ (ltQ a b)) h k
noncomputable def eqlQ : Bq := fun _ a b h k => kB (eqQ a b) h k
noncomputable def neqQ : Bq := fun _ a b h k => kB (notQ (eqQ a b)) h k
noncomputable def bqOf (op : BinOp) : W Bq := match op with
  | .add => ⟨addQ⟩ | .sub => ⟨subQ⟩ | .mul => ⟨mulQ⟩ | .lss => ⟨lssQ⟩ | .gtr => ⟨gtrQ⟩ | .leq => ⟨leqQ⟩ | .geq => ⟨geqQ⟩ | .eql => ⟨eqlQ⟩ | .neq => ⟨neqQ⟩
  | op => ⟨oldQ (fOf op)⟩
abbrev SqF := Nat → Nat → Nat → Nat → Bool
noncomputable def eqSQ : SqF := fun la na lb nb => bAnd (Nat.beq la lb) (Nat.beq na nb)
noncomputable def neSQ : SqF := fun la na lb nb => notQ (bAnd (Nat.beq la lb) (Nat.beq na nb))
noncomputable def s2y (y : V) (q : SqF) (la : Nat) (na : Nat) (h : H) (k : V → H → Bool) : Bool :=
  V.rec (motive_1 := fun _ => SqF → Nat → Nat → H → (V → H → Bool) → Bool) (motive_2 := fun _ => Unit) (fun _ _ _ _ _ => false) (fun _ _ _ _ _ _ => false) (fun _ _ _ _ _ _ _ => false) (fun _ _ _ _ _ _ _ _ _ => false) (fun lb nb q la na h k => kB (q la na lb nb) h k) (fun _ _ _ _ _ => false) (fun _ _ _ _ _ _ _ _ _ => false) (fun _ _ _ _ _ => false) (fun _ _ _ _ _ _ _ _ _ _ _ => false) (fun _ _ _ _ _ _ _ => false) (fun _ _ _ _ _ _ _ => false) (fun _ _ _ _ _ => false) (fun _ _ _ _ _ _ _ _ => false) (fun _ _ _ _ _ => false) (fun _ _ _ _ _ _ _ _ => false) (fun _ _ _ _ _ => false) (fun _ _ _ _ _ _ => false) (fun _ _ _ _ _ => false) (fun _ _ _ _ _ _ => false) () (fun _ _ _ _ => ()) y q la na h k
noncomputable def s2x (q : SqF) (x : V) (h : H) (k : V → H → Bool) (y : V) : Bool :=
  V.rec (motive_1 := fun _ => SqF → V → H → (V → H → Bool) → Bool) (motive_2 := fun _ => Unit) (fun _ _ _ _ => false) (fun _ _ _ _ _ => false) (fun _ _ _ _ _ _ => false) (fun _ _ _ _ _ _ _ _ => false) (fun la na q y h k => s2y y q la na h k) (fun _ _ _ _ => false) (fun _ _ _ _ _ _ _ _ => false) (fun _ _ _ _ => false) (fun _ _ _ _ _ _ _ _ _ _ => false) (fun _ _ _ _ _ _ => false) (fun _ _ _ _ _ _ => false) (fun _ _ _ _ => false) (fun _ _ _ _ _ _ _ => false) (fun _ _ _ _ => false) (fun _ _ _ _ _ _ _ => false) (fun _ _ _ _ => false) (fun _ _ _ _ _ => false) (fun _ _ _ _ => false) (fun _ _ _ _ _ => false) () (fun _ _ _ _ => ()) x q y h k
noncomputable def lnV (h : H) (k : V → H → Bool) (v : V) : Bool :=
  V.rec (motive_1 := fun _ => H → (V → H → Bool) → Bool) (motive_2 := fun _ => Unit) (fun _ _ => false) (fun _ _ _ => false) (fun _ _ _ _ => false) (fun _ _ _ _ _ _ => false) (fun _ _ _ _ => false) (fun _ _ => false) (fun _ _ _ _ _ _ => false) (fun h k => k (.i .i64 (.ofNat 0)) h) (fun _ _ _ n _ _ h k => k (.i .i64 (.ofNat n)) h) (fun _ _ _ _ => false) (fun _ _ _ _ => false) (fun _ _ => false) (fun _ _ _ _ _ => false) (fun _ _ => false) (fun _ _ _ _ _ => false) (fun _ _ => false) (fun _ _ _ => false) (fun _ _ => false) (fun _ _ _ => false) () (fun _ _ _ _ => ()) v h k
noncomputable def lsV (h : H) (k : V → H → Bool) (v : V) : Bool :=
  V.rec (motive_1 := fun _ => H → (V → H → Bool) → Bool) (motive_2 := fun _ => Unit) (fun _ _ => false) (fun _ _ _ => false) (fun _ _ _ _ => false) (fun _ _ _ _ _ _ => false) (fun n _ h k => k (.i .i64 (.ofNat n)) h) (fun _ _ => false) (fun _ _ _ _ _ _ => false) (fun _ _ => false) (fun _ _ _ _ _ _ _ _ => false) (fun _ _ _ _ => false) (fun _ _ _ _ => false) (fun _ _ => false) (fun _ _ _ _ _ => false) (fun _ _ => false) (fun _ _ _ _ _ => false) (fun _ _ => false) (fun _ _ _ => false) (fun _ _ => false) (fun _ _ _ => false) () (fun _ _ _ _ => ()) v h k
noncomputable def ntV (h : H) (k : V → H → Bool) (v : V) : Bool :=
  V.rec (motive_1 := fun _ => H → (V → H → Bool) → Bool) (motive_2 := fun _ => Unit) (fun _ _ => false) (fun x h k => kB (notQ x) h k) (fun _ _ _ _ => false) (fun _ _ _ _ _ _ => false) (fun _ _ _ _ => false) (fun _ _ => false) (fun _ _ _ _ _ _ => false) (fun _ _ => false) (fun _ _ _ _ _ _ _ _ => false) (fun _ _ _ _ => false) (fun _ _ _ _ => false) (fun _ _ => false) (fun _ _ _ _ _ => false) (fun _ _ => false) (fun _ _ _ _ _ => false) (fun _ _ => false) (fun _ _ _ => false) (fun _ _ => false) (fun _ _ _ => false) () (fun _ _ _ _ => ()) v h k
noncomputable def nth (j : Nat) : W (List V → H → (V → H → Bool) → Bool) :=
  Nat.rec ⟨fun l h k => List.rec (fun _ _ => false) (fun v _ _ h k => frcQ h k v) l h k⟩ (fun _ ih => W.on ih fun m => ⟨fun l h k => List.rec (fun _ _ => false) (fun _ l _ h k => m l h k) l h k⟩) j
abbrev Nq := List V → H → (V → H → Bool) → Bool
noncomputable def exV (m : Nq) (h : H) (k : V → H → Bool) (v : V) : Bool :=
  V.rec (motive_1 := fun _ => Nq → H → (V → H → Bool) → Bool) (motive_2 := fun _ => Unit) (fun _ _ _ => false) (fun _ _ _ _ => false) (fun _ _ _ _ _ => false) (fun _ _ _ _ _ _ _ => false) (fun _ _ _ _ _ => false) (fun _ _ _ => false) (fun _ _ _ _ _ _ _ => false) (fun _ _ _ => false) (fun _ _ _ _ _ _ _ _ _ => false) (fun _ _ _ _ _ => false) (fun cs _ m h k => m cs h k) (fun _ _ _ => false) (fun _ _ _ _ _ _ => false) (fun _ _ _ => false) (fun _ _ _ _ _ _ => false) (fun _ _ _ => false) (fun _ _ _ _ => false) (fun _ _ _ => false) (fun _ _ _ _ => false) () (fun _ _ _ _ => ()) v m h k
noncomputable def fdV (m : Nq) (h : H) (k : V → H → Bool) (v : V) : Bool :=
  V.rec (motive_1 := fun _ => Nq → H → (V → H → Bool) → Bool) (motive_2 := fun _ => Unit) (fun _ _ _ => false) (fun _ _ _ _ => false) (fun _ _ _ _ _ => false) (fun _ _ _ _ _ _ _ => false) (fun _ _ _ _ _ => false) (fun _ _ _ => false) (fun _ _ _ _ _ _ _ => false) (fun _ _ _ => false) (fun _ _ _ _ _ _ _ _ _ => false) (fun cs _ m h k => m cs h k) (fun _ _ _ _ _ => false) (fun _ _ _ => false) (fun _ _ _ _ _ _ => false) (fun _ _ _ => false) (fun _ _ _ _ _ _ => false) (fun _ _ _ => false) (fun _ _ _ _ => false) (fun _ _ _ => false) (fun _ _ _ _ => false) () (fun _ _ _ _ => ()) v m h k
abbrev K := X → F → H → Bool
abbrev StF := CallF → F → E → H → K → Bool
noncomputable def cnV (a : StF) (b : StF) (cf : CallF) (t : F) (e : E) (h : H) (k : K) (v : V) : Bool :=
  V.rec (motive_1 := fun _ => StF → StF → CallF → F → E → H → K → Bool) (motive_2 := fun _ => Unit) (fun _ _ _ _ _ _ _ => false) (fun x a b cf t e h k => Bool.rec (fun _ b cf t e h k => b cf t e h k) (fun a _ cf t e h k => a cf t e h k) x a b cf t e h k) (fun _ _ _ _ _ _ _ _ _ => false) (fun _ _ _ _ _ _ _ _ _ _ _ => false) (fun _ _ _ _ _ _ _ _ _ => false) (fun _ _ _ _ _ _ _ => false) (fun _ _ _ _ _ _ _ _ _ _ _ => false) (fun _ _ _ _ _ _ _ => false) (fun _ _ _ _ _ _ _ _ _ _ _ _ _ => false) (fun _ _ _ _ _ _ _ _ _ => false) (fun _ _ _ _ _ _ _ _ _ => false) (fun _ _ _ _ _ _ _ => false) (fun _ _ _ _ _ _ _ _ _ _ => false) (fun _ _ _ _ _ _ _ => false) (fun _ _ _ _ _ _ _ _ _ _ => false) (fun _ _ _ _ _ _ _ => false) (fun _ _ _ _ _ _ _ _ => false) (fun _ _ _ _ _ _ _ => false) (fun _ _ _ _ _ _ _ _ => false) () (fun _ _ _ _ => ()) v a b cf t e h k
noncomputable def arQ (os : List (W Gq)) : W (F → E → (List V → Bool) → Bool) :=
  List.rec ⟨fun _ _ k => k []⟩ (fun o _ ih => W.on o fun g => W.on ih fun m => ⟨fun t e k => g t e fun v => m t e fun vs => k (v :: vs)⟩) os
noncomputable def mvQ (o : W Gq) : W Rv := W.on o fun g => ⟨fun _ t e h k => g t e fun v => k v h⟩
noncomputable def loadQ (o : W Gq) : W Rv := W.on o fun g => ⟨fun _ t e h k => g t e (ldV h k)⟩
noncomputable def faQ (d : Nat) (o : W Gq) : W Rv := W.on o fun g => ⟨fun _ t e h k => g t e (faV d h k)⟩
noncomputable def ncQ (o : W Gq) : W Rv := W.on o fun g => ⟨fun _ t e h k => g t e (ncV h k)⟩
noncomputable def ixQ (size : Nat) (x y : W Gq) : W Rv := W.on x fun f => W.on y fun g => ⟨fun _ t e h k => f t e fun v => g t e (ixL size v h k)⟩
noncomputable def ixAQ (len size : Nat) (x y : W Gq) : W Rv := W.on x fun f => W.on y fun g => ⟨fun _ t e h k => f t e fun v => g t e (ixA len size v h k)⟩
noncomputable def binQ (q : Bq) (x y : W Gq) : W Rv := W.on x fun f => W.on y fun g => ⟨fun _ t e h k => f t e fun v => g t e (b2x q v h k)⟩
noncomputable def scQ (q : SqF) (x y : W Gq) : W Rv := W.on x fun f => W.on y fun g => ⟨fun _ t e h k => f t e fun v => g t e (s2x q v h k)⟩
noncomputable def lnQ (o : W Gq) : W Rv := W.on o fun g => ⟨fun _ t e h k => g t e (lnV h k)⟩
noncomputable def lsQ (o : W Gq) : W Rv := W.on o fun g => ⟨fun _ t e h k => g t e (lsV h k)⟩
noncomputable def ntQ (o : W Gq) : W Rv := W.on o fun g => ⟨fun _ t e h k => g t e (ntV h k)⟩
noncomputable def exQ (j : Nat) (o : W Gq) : W Rv := W.on o fun g => W.on (nth j) fun m => ⟨fun _ t e h k => g t e (exV m h k)⟩
noncomputable def fdQ (d : Nat) (o : W Gq) : W Rv := W.on o fun g => W.on (nth d) fun m => ⟨fun _ t e h k => g t e (fdV m h k)⟩
noncomputable def callQ (f : FuncId) (args : List (W Gq)) : W Rv := W.on (arQ args) fun m => ⟨fun cf t e h k => m t e fun vs => cf f vs h k⟩
/-- with up to two operands, which the evaluator's operation looks at -/
noncomputable def dyQ1 (r : O → Run) (o : W Gq) : W Rv := W.on o fun g => ⟨fun cf t e h k => g t e fun v => r (.c v) cf F.zero h k⟩
noncomputable def dyQ2 (r : O → O → Run) (x y : W Gq) : W Rv := W.on x fun f => W.on y fun g => ⟨fun cf t e h k => f t e fun v => g t e fun w => r (.c v) (.c w) cf F.zero h k⟩
noncomputable def dyQ3 (r : O → O → O → Run) (x y z : W Gq) : W Rv := W.on x fun f => W.on y fun g => W.on z fun m => ⟨fun cf t e h k => f t e fun u => g t e fun v => m t e fun w => r (.c u) (.c v) (.c w) cf F.zero h k⟩
noncomputable def zipP (ps : List Pt) : List V → List Pt := List.rec (fun _ => []) (fun p _ ih vs => List.rec [] (fun v vs _ => Pt.rec (fun off size _ => ⟨off, size, .c v⟩) p :: ih vs) vs) ps
noncomputable def dyQL (r : List Pt → Run) (ps : List Pt) (os : List (W Gq)) : W Rv := W.on (arQ os) fun m => ⟨fun cf t e h k => m t e fun vs => r (zipP ps vs) cf F.zero h k⟩
noncomputable def alQ (el : Nat) (z : List V) : W Rv := ⟨fun cf _ _ h k => doAlloc el z cf F.zero h k⟩
noncomputable def qLoad (ty : Option Ty) (o : W Gq) : Option (W Rv) := match ty with
  | some ⟨size, _, d, _⟩ => match isAggD d with
    | true => some (dyQ1 (doLoadA size) o)
    | false => some (loadQ o)
  | none => none
noncomputable def qFieldAddr (P : Program) (ty : Option Ty) (k : Nat) (o : W Gq) : Option (W Rv) := match ty with
  | some ⟨_, _, .struct fs, _⟩ => match lgQ fs.toList k with
    | some f => match tyQ P f.type with
      | some ⟨_ + 1, _, _, _⟩ => some (faQ f.offset o)
      | _ => none
    | none => none
  | _ => none
noncomputable def qField (P : Program) (ty : Option Ty) (k : Nat) (o : W Gq) : Option (W Rv) := match ty with
  | some ⟨_, _, .struct fs, _⟩ => match lgQ fs.toList k with
    | some f => match tyQ P f.type with
      | some ⟨size, _, d, _⟩ => match isAggD d with
        | true => some (dyQ1 (doFieldA f.offset size) o)
        | false => some (fdQ f.offset o)
      | none => none
    | none => none
  | _ => none
noncomputable def qIndexAddr (P : Program) (ty : Option Ty) (o x : W Gq) : Option (W Rv) := match ty with
  | some ⟨_, _, .slice e, _⟩ => match tyQ P e with
    | some ⟨size, _, _, _⟩ => some (ixQ size o x)
    | none => none
  | some ⟨_, _, .array len e, _⟩ => match tyQ P e with
    | some ⟨size, _, _, _⟩ => some (ixAQ len size o x)
    | none => none
  | _ => none
noncomputable def qStore (ty : Option Ty) (o x : W Gq) : Option (W Rv) := match ty with
  | some ⟨size, _, _, _⟩ => some (dyQ2 (doStore size) o x)
  | none => none
noncomputable def qBinI (op : BinOp) (x y : W Gq) : Option (W Rv) := match op with
  | .rem => some (dyQ2 doRem x y)
  | .shl => some (dyQ2 (doShift shlF) x y)
  | .shr => some (dyQ2 (doShift shrF) x y)
  | op => some (W.on (bqOf op) fun q => binQ q x y)
noncomputable def qBinS (op : BinOp) (x y : W Gq) : Option (W Rv) := match op with
  | .add => some (dyQ2 doConcat x y)
  | .eql => some (scQ eqSQ x y)
  | .neq => some (scQ neSQ x y)
  | .lss => some (scQ ltS x y)
  | _ => none
noncomputable def qNil (f : V → (Bool → Bool) → Bool) (op : BinOp) (x y : W Gq) : Option (W Rv) := match op with
  | .eql => some (dyQ2 (doNil f false) x y)
  | .neq => some (dyQ2 (doNil f true) x y)
  | _ => none
noncomputable def qBinB (op : BinOp) (x y : W Gq) : Option (W Rv) := match op with
  | .eql => some (dyQ2 (doBool false) x y)
  | .neq => some (dyQ2 (doBool true) x y)
  | _ => none
noncomputable def qPtr (ne : Bool) (ty : Option Ty) (x y : W Gq) : Option (W Rv) := match ty with
  | some ⟨_ + 1, _, _, _⟩ => some (dyQ2 (doPtr ne) x y)
  | _ => none
noncomputable def qBinP (ty : Option Ty) (op : BinOp) (x y : W Gq) : Option (W Rv) := match op with
  | .eql => qPtr false ty x y
  | .neq => qPtr true ty x y
  | _ => none
noncomputable def qSEq2 (ks : List KD) (op : BinOp) (x y : W Gq) : Option (W Rv) := match op with
  | .eql => some (dyQ2 (doSEq ks false) x y)
  | .neq => some (dyQ2 (doSEq ks true) x y)
  | _ => none
noncomputable def qSEq (P : Program) (tx : TypeId) (fs : Array Field) (op : BinOp) (x y : W Gq) : Option (W Rv) := match !P.stoodInHeld tx && !P.eqGuardType P.depth tx, kdsOf P fs.toList 0 with
  | true, some ks => qSEq2 ks op x y
  | _, _ => none
noncomputable def qBin (P : Program) (op : BinOp) (tx : TypeId) (x y : W Gq) : Option (W Rv) := match tyQ P tx with
  | some ⟨_, _, .int _, _⟩ => qBinI op x y
  | some ⟨_, _, .string, _⟩ => qBinS op x y
  | some ⟨_, _, .slice _, _⟩ => qNil vLN op x y
  | some ⟨_, _, .map _ _, _⟩ => qNil vMN op x y
  | some ⟨_, _, .bool, _⟩ => qBinB op x y
  | some ⟨_, _, .pointer e, _⟩ => qBinP (tyQ P e) op x y
  | some ⟨_, _, .struct fs, _⟩ => qSEq P tx fs op x y
  | _ => none
noncomputable def qUn (op : UnOp) (x : W Gq) : Option (W Rv) := match op with
  | .not => some (ntQ x)
  | .neg => some (dyQ1 doNeg x)
  | _ => none
noncomputable def qB2S (ty : Option Ty) (x : W Gq) : Option (W Rv) := match ty with
  | some ⟨1, _, .int .u8, _⟩ => some (dyQ1 doB2S x)
  | _ => none
noncomputable def qConv (P : Program) (s d : TypeId) (x : W Gq) : Option (W Rv) := match tyQ P s, tyQ P d with
  | some _, some ⟨_, _, .int k, _⟩ => some (dyQ1 (doConv k) x)
  | some ⟨_, _, .slice e, _⟩, some ⟨_, _, .string, _⟩ => qB2S (tyQ P e) x
  | _, _ => none
noncomputable def qIndexA (len : Nat) (ty : Option Ty) (x y : W Gq) : Option (W Rv) := match ty with
  | some ⟨size, _, d, _⟩ => match isAggD d with
    | true => none
    | false => some (dyQ2 (doAIndex len size) x y)
  | none => none
noncomputable def qIndex (P : Program) (t : TypeId) (x y : W Gq) : Option (W Rv) := match tyQ P t with
  | some ⟨_, _, .string, _⟩ => some (dyQ2 doSIndex x y)
  | some ⟨_, _, .array len e, _⟩ => qIndexA len (tyQ P e) x y
  | _ => none
noncomputable def qLen (P : Program) (t : TypeId) (x : W Gq) : Option (W Rv) := match tyQ P t with
  | some ⟨_, _, .slice _, _⟩ => some (lnQ x)
  | some ⟨_, _, .string, _⟩ => some (lsQ x)
  | _ => none
noncomputable def qFn1 (P : Program) (f : FuncId) (args : List (W Gq)) : Option (W Rv) := match lgQ P.funcs.toList f with
  | none => none
  | some fn => match fn.body with
    | some _ => some (callQ f args)
    | none => none
noncomputable def qAppend (P : Program) (t t' : TypeId) (x y : W Gq) : Option (W Rv) := match tyQ P t, tyQ P t' with
  | some ⟨_, _, .slice e, _⟩, some ⟨_, _, .slice _, _⟩ => match tyQ P e with
    | some ⟨size, bytes, _, z⟩ => match Nat.ble 1 size && (Nat.ble bytes 65536 && Nat.beq z.length size) with
      | true => some (dyQ2 (doAppend e size) x y)
      | false => none
    | none => none
  | _, _ => none
noncomputable def qBuiltin (P : Program) (b : Builtin) (args : List (W Gq)) (tys : List TypeId) : Option (W Rv) := match b, args, tys with
  | .len, [x], [t] => qLen P t x
  | .append, [x, y], [t, t'] => qAppend P t t' x y
  | _, _, _ => none
noncomputable def qCall (P : Program) (rs : Operand → W Gq) (c : Call) : Option (W Rv) := match c with
  | ⟨.builtin b, args, tys⟩ => qBuiltin P b (args.toList.map rs) tys.toList
  | ⟨.value (.func f), args, _⟩ => qFn1 P f (args.toList.map rs)
  | _ => none
noncomputable def qAlloc (el : Nat) (ty : Option Ty) : Option (W Rv) := match ty with
  | some ⟨size, _, _, z⟩ => match Nat.beq z.length size && Nat.ble 1 size with
    | true => some (alQ el z)
    | false => none
  | none => none
noncomputable def qBuild (P : Program) (ty : Option Ty) (rs : Operand → W Gq) (parts : List (Nat × Operand)) : Option (W Rv) := match ty with
  | some ⟨_, _, .struct fs, z⟩ => match compParts P fs.toList parts, Nat.ble 1 z.length && fs.toList.all (fun f => (tyAt P f.type).isSome) with
    | some ps, true => some (dyQL (doBuild z) ps (parts.map fun p => rs p.2))
    | _, _ => none
  | _ => none
noncomputable def qBuildSlice (P : Program) (ty : Option Ty) (len : Nat) (rs : Operand → W Gq) (parts : List (Nat × Operand)) : Option (W Rv) := match ty with
  | some ⟨_, _, .slice e, _⟩ => match tyQ P e with
    | some ⟨size, _, _, z⟩ => match Nat.beq z.length size && (Nat.ble 1 size && Nat.ble (Nat.mul len size) 1048576) with
      | true => some (dyQL (doBuildSlice e len (repL z len)) (compPartsA size parts) (parts.map fun p => rs p.2))
      | false => none
    | none => none
  | _ => none
noncomputable def qOp (P : Program) (rs : Operand → W Gq) (op : Op) : Option (W Rv) :=
  Op.rec (motive := fun _ => Program → (Operand → W Gq) → Option (W Rv)) (fun x _ rs => some (mvQ (rs x))) (fun x _ rs => some (mvQ (rs x))) (fun c a b _ rs => some (dyQ3 doPick (rs c) (rs a) (rs b))) (fun e P _ => qAlloc e (tyQ P e)) (fun e x _ rs => some (dyQ1 (doBox e) (rs x))) (fun e parts P rs => qBuild P (tyQ P e) rs parts.toList) (fun e len parts P rs => qBuildSlice P (tyQ P e) len rs parts.toList) (fun _ _ _ _ _ _ => none) (fun e x P rs => qLoad (tyQ P e) (rs x)) (fun e x v P rs => qStore (tyQ P e) (rs x) (rs v)) (fun _ _ _ => none) (fun _ _ _ => none) (fun x _ rs => some (ncQ (rs x))) (fun op tx x y _ P rs => qBin P op tx (rs x) (rs y)) (fun op _ x _ rs => qUn op (rs x)) (fun s d x P rs => qConv P s d (rs x)) (fun _ _ _ _ => none) (fun _ _ _ _ => none) (fun _ _ _ _ _ => none) (fun _ _ _ _ => none) (fun _ _ _ _ => none) (fun _ _ _ _ _ => none) (fun _ _ _ _ _ _ _ => none) (fun s x k P rs => qFieldAddr P (tyQ P s) k (rs x)) (fun s x k P rs => qField P (tyQ P s) k (rs x)) (fun s x ix P rs => qIndexAddr P (tyQ P s) (rs x) (rs ix)) (fun t x y P rs => qIndex P t (rs x) (rs y)) (fun _ _ _ _ _ _ => none) (fun _ _ _ _ _ _ => none) (fun _ _ _ _ _ => none) (fun _ _ _ _ _ _ => none) (fun _ _ _ _ => none) (fun _ _ _ _ => none) (fun _ _ _ => none) (fun _ _ _ _ _ _ => none) (fun x k _ rs => some (exQ k (rs x))) (fun c P rs => qCall P rs c) (fun _ _ _ => none) (fun _ _ _ => none) (fun _ _ _ => none) (fun _ _ _ _ => none) (fun _ _ _ _ _ => none) (fun _ _ _ _ => none) op P rs
/-- quick, or as the evaluator has it -/
noncomputable def oldRv (c : CR) : W Rv := CR.rec (fun r => ⟨fun cf t _ h k => r cf t h k⟩) c
noncomputable def qRun (P : Program) (rs : Operand → W Gq) (op : Op) : W Rv := Option.rec (fun P op => oldRv (compOp P op)) (fun r _ _ => r) (qOp P rs op) P op
def bitN (m n : Nat) : Bool := Nat.beq (Nat.mod (Nat.div m (Nat.pow 2 n)) 2) 1
noncomputable def goQ (hand : Bool) (p : Pq) (r : Rv) (nx : StF) : W StF := match hand with
  | true => ⟨fun cf t e h k => r cf t e h fun v h => nx cf t (v :: e) h k⟩
  | false => ⟨fun cf t e h k => r cf t e h fun v h => p v t fun t => nx cf t e h k⟩
noncomputable def gH (b : Bool) : Rv → StF → StF := Bool.rec (fun _ nx cf t e h k => nx cf t (.tu [] :: e) h k) (fun r nx cf t e h k => r cf t e h fun v h => nx cf t (v :: e) h k) b
noncomputable def gF (b : Bool) : Pq → Rv → StF → StF := Bool.rec (fun p _ nx cf t e h k => p (.tu []) t fun t => nx cf t e h k) (fun p r nx cf t e h k => r cf t e h fun v h => p v t fun t => nx cf t e h k) b
noncomputable def goG (hand w : Bool) (p : Pq) (r : Rv) (nx : StF) (g : Gq) : W StF := match hand with
  | true => ⟨fun cf t e h k => g t e fun v => vG v w fun b => gH b r nx cf t e h k⟩
  | false => ⟨fun cf t e h k => g t e fun v => vG v w fun b => gF b p r nx cf t e h k⟩
noncomputable def badQ : W StF := ⟨fun _ _ _ _ _ => false⟩
def slG (ops : List Oper) : Option (Nat × Bool) → Option (Nat × Bool)
  | none => none
  | some (j, w) => match ops[j]? with
    | some ⟨some d, _, _, _, _, _⟩ => some (d, w)
    | _ => none
noncomputable def gdQ (nt : Nat) (ls : List Nat) (al : Al) (hand : Bool) (p : Pq) (r : Rv) (nx : StF) (ops : List Oper) : Option (Nat × Bool) → W StF
  | none => goQ hand p r nx
  | some jw => match slG ops (some jw) with
    | some (d, w) => match Nat.ble (Nat.succ d) nt && Nat.ble (Nat.succ d) 512 with
      | true => W.on (rQ ls al (.tmp d)) fun g => goG hand w p r nx g
      | false => badQ
    | none => badQ
/-- what an operation that is but another name stands for -/
def nameOf (am : Nat) : Option Tmp → Op → Option (Nat × Operand)
  | some d, .move x => match bitN am d with
    | true => some (d, x)
    | false => none
  | some d, .assign x => match bitN am d with
    | true => some (d, x)
    | false => none
  | _, _ => none
def okSl (nt d : Nat) : Bool := Nat.ble (Nat.succ d) nt && Nat.ble (Nat.succ d) 512
def handB (dm : Nat) : Option Tmp → Bool
  | some d => bitN dm d
  | none => false
/-- what is at hand, what has another name, what of the frame has one; and as bits: what is new no longer; what has another name -/
structure Lay where
  ls : List Nat
  al : Al
  um : Nat
  tm : Nat
def Lay.zero : Lay := ⟨[], [], 0, 0⟩
def Lay.push (l : Lay) (d : Nat) : Lay := ⟨d :: l.ls, l.al, Nat.lor l.um (Nat.pow 2 d), l.tm⟩
def tmpM : Operand → Nat
  | .tmp n => Nat.pow 2 n
  | _ => 0
def Lay.name (l : Lay) (d : Nat) (y : Operand) : Lay := ⟨l.ls, (d, y) :: l.al, Nat.lor l.um (Nat.pow 2 d), Nat.lor l.tm (tmpM y)⟩
def okDst (nt dm : Nat) (l : Lay) : Option Tmp → Bool
  | none => true
  | some d => okSl nt d && (!bitN l.tm d && (!bitN dm d || !bitN l.um d))
noncomputable def pushO (d : Option Tmp) (l : Lay) : Lay := match d with
  | some d => l.push d
  | none => l
/-- what stays as it is while a row is laid out -/
structure Cy where
  P : Program
  nt : Nat
  dm : Nat
  am : Nat
  all : List Oper
  nx : Lay → W StF
abbrev Ih := Cy → Lay → W StF
/-- an operation that is run: what is made is kept at hand, or put into the frame -/
noncomputable def chR (P : Program) (nt dm am : Nat) (all : List Oper) (nx : Lay → W StF) (dst : Option Tmp) (op : Op) (gd : Option (Nat × Bool)) (ih : Ih) (l : Lay) : W StF :=
  Bool.rec (fun P nt dm am all nx dst op gd ih l => W.on (dQ (dOf nt dst)) fun p => W.on (qRun P (rQ l.ls l.al) op) fun r' => W.on (ih ⟨P, nt, dm, am, all, nx⟩ l) fun n => gdQ nt l.ls l.al false p r' n all gd)
    (fun P nt dm am all nx dst op gd ih l => W.on (qRun P (rQ l.ls l.al) op) fun r' => W.on (ih ⟨P, nt, dm, am, all, nx⟩ (pushO dst l)) fun n => gdQ nt l.ls l.al true (fun _ _ _ => false) r' n all gd)
    (handB dm dst) P nt dm am all nx dst op gd ih l
/-- but another name -/
noncomputable def chA (P : Program) (nt dm am : Nat) (all : List Oper) (nx : Lay → W StF) (d : Nat) (x : Operand) (ih : Ih) (l : Lay) : W StF :=
  Bool.rec (fun _ _ _ _ _ _ _ _ _ _ => badQ) (fun P nt dm am all nx d x ih l => ih ⟨P, nt, dm, am, all, nx⟩ (l.name d (tgt l.al x))) (bitN dm d) P nt dm am all nx d x ih l
noncomputable def chN (P : Program) (nt dm am : Nat) (all : List Oper) (nx : Lay → W StF) (dst : Option Tmp) (op : Op) (gd : Option (Nat × Bool)) (ih : Ih) (l : Lay) : W StF :=
  Option.rec (fun P nt dm am all nx dst op gd ih l => chR P nt dm am all nx dst op gd ih l)
    (fun dx P nt dm am all nx dst op gd ih l => Option.rec (fun dx P nt dm am all nx _ _ ih l => Prod.rec (fun d x P nt dm am all nx ih l => chA P nt dm am all nx d x ih l) dx P nt dm am all nx ih l) (fun g _ P nt dm am all nx dst op ih l => chR P nt dm am all nx dst op (some g) ih l) gd dx P nt dm am all nx dst op ih l)
    (nameOf am dst op) P nt dm am all nx dst op gd ih l
noncomputable def chS (P : Program) (nt dm am : Nat) (all : List Oper) (nx : Lay → W StF) (dst : Option Tmp) (op : Op) (gd : Option (Nat × Bool)) (ih : Ih) (l : Lay) : W StF :=
  Bool.rec (fun _ _ _ _ _ _ _ _ _ _ _ => badQ) (fun P nt dm am all nx dst op gd ih l => chN P nt dm am all nx dst op gd ih l) (okDst nt dm l dst) P nt dm am all nx dst op gd ih l
noncomputable def chV (P : Program) (nt dm am : Nat) (all : List Oper) (nx : Lay → W StF) (ops : List Oper) (l : Lay) : W StF :=
  List.rec (motive := fun _ => Ih) (fun c l => Cy.rec (fun _ _ _ _ _ nx l => nx l) c l)
    (fun o _ ih c l => Cy.rec (fun P nt dm am all nx o ih l => Oper.rec (fun dst op _ _ _ gd P nt dm am all nx ih l => chS P nt dm am all nx dst op gd ih l) o P nt dm am all nx ih l) c o ih l) ops ⟨P, nt, dm, am, all, nx⟩ l
noncomputable def dxG (b : Bool) : Rv → Pq → StF → CallF → F → H → K → Bool :=
  Bool.rec (fun _ p nx cf t h k => p (.tu []) t fun t => nx cf t [] h k) (fun r p nx cf t h k => r cf t [] (reFloor h) fun v h' => p v t fun t => nx cf t [] (unFloor h h') k) b
noncomputable def sxG (b : Bool) : Rv → Pq → StF → CallF → F → H → K → Bool :=
  Bool.rec (fun _ p nx cf t h k => p (.tu []) t fun t => nx cf t [] h k) (fun r p nx cf t h k => r cf t [] h fun v h' => p v t fun t => nx cf t [] h' k) b
noncomputable def dtQ (g : G) (r : Rv) (p : Pq) (nx : StF) : W StF :=
  G.rec (fun r p nx => ⟨fun cf t _ h k => r cf t [] (reFloor h) fun v h' => p v t fun t => nx cf t [] (unFloor h h') k⟩) (fun s w r p nx => W.on (gq s) fun g => ⟨fun cf t _ h k => g t [] fun v => vG v w fun b => dxG b r p nx cf t h k⟩) (fun _ _ _ => badQ) g r p nx
noncomputable def stQ (g : G) (r : Rv) (p : Pq) (nx : StF) : W StF :=
  G.rec (fun r p nx => ⟨fun cf t _ h k => r cf t [] h fun v h' => p v t fun t => nx cf t [] h' k⟩) (fun s w r p nx => W.on (gq s) fun g => ⟨fun cf t _ h k => g t [] fun v => vG v w fun b => sxG b r p nx cf t h k⟩) (fun _ _ _ => badQ) g r p nx
noncomputable def drQ (bars : Nat → Bool) (P : Program) (nt : Nat) (all : List Oper) (nx : W StF) : Nat → List Oper → W StF
  | _, [] => nx
  | n, o :: r => W.on (dQ (dOf nt o.dst)) fun p => W.on (drQ bars P nt all nx (n + 1) r) fun nx => W.on (qRun P (rQ [] []) o.op) fun r' => match bars n with
    | true => stQ (compG nt all o.guard) r' p nx
    | false => dtQ (compG nt all o.guard) r' p nx
noncomputable def endQ : W StF := ⟨fun _ t _ h k => k .normal t h⟩
noncomputable def cmQ (dm : Nat) (c : CC) (nx : W StF) : W StF := match Nat.beq dm 0, c with
  | true, .comm pre m d post => W.on nx fun nx => ⟨fun cf t _ h k => execOps cf pre t h fun t h => cmK m t h fun v h => putD d v t fun t => execOps cf post t h fun t h => nx cf t [] h k⟩
  | _, _ => badQ
noncomputable def natR {R : Type} (n : Nat) : (Nat → R) → R := Nat.rec (fun k => k 0) (fun m _ k => k (Nat.succ m)) n
noncomputable def boolR {R : Type} (b : Bool) : (Bool → R) → R := Bool.rec (fun k => k false) (fun k => k true) b
noncomputable def snR {R : Type} (l : List Nat) : Nat → (List Nat → R) → R := List.rec (fun b k => k [b]) (fun x _ ih b k => ih b fun r => k (x :: r)) l
noncomputable def befQ (done : List Nat) (es : List Edge) : Nat → Nat := List.rec (fun acc => acc) (fun e _ ih acc => Bool.rec (ih acc) (ih (Nat.lor (Nat.lor acc (Nat.pow 2 e.on)) ((lgQ done e.on).getD 0))) (Region.binds .any e)) es
noncomputable def befsR {R : Type} (ops : List Oper) : List Nat → (List Nat → R) → R := List.rec (fun done k => k done) (fun o _ ih done k => natR (befQ done o.after.toList 0) fun b => snR done b fun done => ih done k) ops
structure Rw where
  i : Nat
  b : Nat
  d : Nat
  l : Nat
  s : Bool
noncomputable def mOf (l : List Nat) : Nat := List.rec 0 (fun n _ ih => Nat.lor (Nat.pow 2 n) ih) l
noncomputable def rowsR {R : Type} (P : Program) (all : List Oper) (bs : List Nat) (ops : List Oper) : Nat → (List Rw → R) → R :=
  List.rec (fun _ k => k []) (fun o _ ih n k => natR ((lgQ bs n).getD 0) fun b => natR (mOf (dstL o)) fun d => natR (mOf (looks all o)) fun l => boolR (still P o.op) fun s => ih (Nat.succ n) fun r => k (⟨n, b, d, l, s⟩ :: r)) ops
noncomputable def apQ (xd xl yd yl : Nat) : Bool := bAnd (Nat.beq (Nat.land xd yd) 0) (bAnd (Nat.beq (Nat.land xd yl) 0) (Nat.beq (Nat.land yd xl) 0))
noncomputable def rowQ (i d l : Nat) (r : List Rw) : Bool := List.rec true (fun y _ ih => Rw.rec (fun _ yb yd yl _ ih => Bool.rec (Bool.rec false ih (apQ d l yd yl)) ih (bitN yb i)) y ih) r
noncomputable def allQ (r : List Rw) : Bool := List.rec true (fun x r ih => Rw.rec (fun i _ d l _ r ih => Bool.rec false ih (rowQ i d l r)) x r ih) r
noncomputable def barQ (i b : Nat) (r : List Rw) : Bool := List.rec true (fun y _ ih => Rw.rec (fun yi yb _ _ ys ih => Bool.rec (Bool.rec (Bool.rec (Bool.rec false ih (bitN b yi)) ih (bitN yb i)) ih (Nat.beq i yi)) ih ys) y ih) r
noncomputable def barsR {R : Type} (all : List Rw) (r : List Rw) : (List Bool → R) → R := List.rec (fun k => k []) (fun x _ ih k => Rw.rec (fun i b _ _ s ih k => boolR (Bool.rec (barQ i b all) false s) fun c => ih fun r => k (c :: r)) x ih k) r
noncomputable def barL (l : List Bool) (n : Nat) : Bool := (lgQ l n).getD false
abbrev Cq := CallF → F → H → (List (F × H) → F → H → Bool) → Bool
noncomputable def cxG (b : Bool) : Rv → Pq → Cq → Cq :=
  Bool.rec (fun _ p m cf t h k => p (.tu []) t fun t1 => m cf t1 h fun l t2 h2 => k ((t1, h) :: l) t2 h2) (fun r p m cf t h k => r cf t [] h fun v h1 => p v t fun t1 => m cf t1 h1 fun l t2 h2 => k ((t1, h1) :: l) t2 h2) b
noncomputable def stCq (g : G) (r : Rv) (p : Pq) (m : Cq) : W Cq :=
  G.rec (fun r p m => ⟨fun cf t h k => r cf t [] h fun v h1 => p v t fun t1 => m cf t1 h1 fun l t2 h2 => k ((t1, h1) :: l) t2 h2⟩) (fun s w r p m => W.on (gq s) fun g => ⟨fun cf t h k => g t [] fun v => vG v w fun b => cxG b r p m cf t h k⟩) (fun _ _ _ => ⟨fun _ _ _ _ => false⟩) g r p m
noncomputable def crQ (P : Program) (nt : Nat) (all ops : List Oper) : W Cq :=
  List.rec ⟨fun _ t h k => k [] t h⟩ (fun o _ ih => W.on (dQ (dOf nt o.dst)) fun p => W.on (qRun P (rQ [] []) o.op) fun r => W.on ih fun m => stCq (compG nt all o.guard) r p m) ops
noncomputable def dK (d : D) (x : Bool) : Bool := D.rec x (fun _ => x) false d
noncomputable def lkQ (g : G) (r : Rv) (d : D) (cf : CallF) (t : F) (h h2 : H) (k : Unit → Bool) : Bool :=
  guardK g t fun b => Bool.rec (fun _ d _ _ _ _ k => dK d (k ())) (fun r d cf t h h2 k => r cf t [] h fun v _ => r cf t [] h2 fun v' _ => ifK (eqV v v') fun _ => dK d (k ())) b r d cf t h h2 k
noncomputable def jsQ (g : G) (r : Rv) (d : D) (cf : CallF) (l : List (F × H)) (ti : F) (hi : H) (js : List Nat) : (Unit → Bool) → Bool :=
  List.rec (fun k => k ()) (fun j _ ih k => optK (lgQ l j) fun th => Prod.rec (fun _ hj => lkQ g r d cf ti hi hj fun _ => ih k) th) js
abbrev Kq := CallF → List (F × H) → (Unit → Bool) → Bool
noncomputable def ckO (P : Program) (nt : Nat) (all : List Oper) (i : Nat) (js : List Nat) (ih : W Kq) (o : Oper) : W Kq :=
  W.on (qRun P (rQ [] []) o.op) fun r => W.on ih fun m => ⟨fun cf l k => optK (lgQ l i) fun th => Prod.rec (fun ti hi => jsQ (compG nt all o.guard) r (dOf nt o.dst) cf l ti hi js fun _ => m cf l k) th⟩
noncomputable def ckQ (P : Program) (nt : Nat) (all : List Oper) (cs : List (Nat × List Nat)) : W Kq :=
  List.rec ⟨fun _ _ k => k ()⟩ (fun p _ ih => Prod.rec (fun i js ih => Option.rec ⟨fun _ _ _ => false⟩ (ckO P nt all i js ih) (lgQ all i)) p ih) cs
noncomputable def dcQ (bars : Nat → Bool) (P : Program) (nt : Nat) (ops : List Oper) (nx : W StF) : Option (List Nat × List (Nat × List Nat)) → W StF
  | none => drQ bars P nt ops nx 0 ops
  | some (_, cs) => W.on (crQ P nt ops ops) fun run => W.on (ckQ P nt ops cs) fun ck => W.on nx fun nx => ⟨fun cf t _ h k => run cf t h fun l t1 h1 => ck cf ((t, h) :: l) fun _ => nx cf t1 [] h1 k⟩
noncomputable def isCommQ (op : Op) : Bool := Op.rec (fun _ => false) (fun _ => false) (fun _ _ _ => false) (fun _ => false) (fun _ _ => false) (fun _ _ => false) (fun _ _ _ => false) (fun _ _ _ _ => false) (fun _ _ => false) (fun _ _ _ => false) (fun _ => false) (fun _ => false) (fun _ => false) (fun _ _ _ _ _ => false) (fun _ _ _ => false) (fun _ _ _ => false) (fun _ _ => false) (fun _ _ => false) (fun _ _ _ => false) (fun _ _ => false) (fun _ _ => false) (fun _ _ _ => false) (fun _ _ _ _ _ => false) (fun _ _ _ => false) (fun _ _ _ => false) (fun _ _ _ => false) (fun _ _ _ => false) (fun _ _ _ _ => false) (fun _ _ _ _ => false) (fun _ _ _ => false) (fun _ _ _ _ => false) (fun _ _ => false) (fun _ _ => false) (fun _ => false) (fun _ _ _ _ => false) (fun _ _ => false) (fun _ => false) (fun _ => false) (fun _ => false) (fun _ => false) (fun _ _ => true) (fun _ _ _ => true) (fun _ _ => true) op
noncomputable def commQ (ops : List Oper) : Nat → Option Nat := List.rec (fun _ => none) (fun o _ ih n => Oper.rec (fun _ op _ _ _ _ ih n => Bool.rec (fun ih n => ih (Nat.succ n)) (fun _ n => some n) (isCommQ op) ih n) o ih n) ops
noncomputable def rgQ (P : Program) (nt dm am : Nat) (ops : List Oper) (draw : Bool) (l : Lay) (nx : Lay → W StF) : W StF := match draw with
  | false => match commQ ops 0 with
    | none => chV P nt dm am ops nx ops l
    | some n => cmQ dm (compComm P nt ops n) (nx .zero)
  | true => match edgesUp 0 ops && ops.all fun o => !isSel o.op, ops.all fun o => !handB dm o.dst with
    | true, true => befsR ops [] fun bs => rowsR P ops bs ops 0 fun rows => match allQ rows with
      | true => barsR rows rows fun bl => dcQ (barL bl) P nt ops (nx .zero) (chainOf P (barL bl) bs ops)
      | false => badQ
    | _, _ => badQ
noncomputable def blkQ (id : Nat) (n : StF) (cf : CallF) (k : K) (x : X) (t : F) (h : H) : Bool :=
  X.rec (fun _ n cf k t h => n cf t [] h k) (fun j id n cf k t h => Bool.rec (fun j _ _ k t h => k (.exit j) t h) (fun _ n cf k t h => n cf t [] h k) (Nat.beq j id) j n cf k t h) (fun _ _ _ k t h => k .ret t h) x id n cf k t h
noncomputable def lpK (ih : StF) (cf : CallF) (k : K) (x : X) (t : F) (h : H) : Bool :=
  X.rec (fun ih cf k t h => ih cf t [] h k) (fun id _ _ k t h => k (.exit id) t h) (fun _ _ k t h => k .ret t h) x ih cf k t h
noncomputable def lpQ (a : StF) (n : Nat) : StF := Nat.rec (fun _ _ _ _ _ => false) (fun _ ih cf t e h k => a cf t e h (lpK ih cf k)) n
noncomputable def cdQ (c : W Gq) (a b : W StF) : W StF := W.on c fun c => W.on a fun a => W.on b fun b => ⟨fun cf t e h k => c t e (cnV a b cf t e h k)⟩
noncomputable def bkQ (id : Nat) (a nx : W StF) : W StF := W.on a fun a => W.on nx fun nx => ⟨fun cf t e h k => a cf t e h (blkQ id nx cf k)⟩
noncomputable def loQ (a : W StF) : W StF := W.on a fun a => ⟨lpQ a 1000000⟩
/-- never to its end -/
noncomputable def nev (c : Code) : Bool :=
  Code.rec false (fun _ _ _ => false) (fun _ _ a b => Bool.rec b true a) (fun _ _ _ a b => Bool.rec false b a) (fun _ _ _ => false) (fun _ _ => false) (fun _ _ _ _ _ _ => false) (fun _ => true) (fun _ a => a) (fun _ => false) (fun _ => false) true (fun _ => false) c
noncomputable def dropN (b : Bool) (nx : Lay → W StF) : Lay → W StF := match b with
  | true => nx
  | false => fun _ => nx .zero
/-- what stays as it is while a function is laid out -/
structure Cx where
  P : Program
  nt : Nat
  dm : Nat
  am : Nat
noncomputable def sC (P : Program) (nt dm am : Nat) (c : Code) (l : Lay) (nx : Lay → W StF) : W StF :=
  Code.rec (motive := fun _ => Cx → Lay → (Lay → W StF) → W StF)
    (fun _ l nx => nx l)
    (fun _ ops draw c l nx => Cx.rec (fun P nt dm am ops draw l nx => rgQ P nt dm am ops draw l nx) c ops.toList draw l nx)
    (fun _ _ ia ib c l nx => ia c l fun l => ib c l nx)
    (fun x a b ia ib c l nx => cdQ (rQ l.ls l.al x) (ia c l (dropN (nev b) nx)) (ib c l (dropN (nev a) nx)))
    (fun id _ ia c l nx => bkQ id (ia c l fun _ => endQ) (nx .zero))
    (fun _ ia c _ _ => loQ (ia c .zero fun _ => endQ))
    (fun _ _ _ _ _ _ _ _ _ => badQ)
    (fun id _ _ _ => ⟨fun _ t _ h k => k (.exit id) t h⟩)
    (fun _ ia c l nx => ia c l nx)
    (fun _ _ l nx => nx l)
    (fun _ _ _ _ => badQ)
    (fun _ _ _ => ⟨fun _ t _ h k => k .ret t h⟩)
    (fun _ _ _ _ => badQ) c ⟨P, nt, dm, am⟩ l nx
abbrev Rq := F → H → (V → H → Bool) → Bool
noncomputable def rsQ (r : Rs) : W (F → H → (V → Bool) → Bool) :=
  Rs.rec (fun s => W.on (gq s) fun g => ⟨fun t _ k => g t [] k⟩) (fun s _ => W.on (gq s) fun g => ⟨fun t h k => g t [] (ldV h fun v _ => k v)⟩) (fun s size => ⟨fun t h k => rsK (.cellA s size) t h k⟩) ⟨fun _ _ _ => false⟩ r
noncomputable def rtQ (rs : List Rs) : W Rq := match rs with
  | [] => ⟨fun _ h k => k (.tu []) h⟩
  | [r] => W.on (rsQ r) fun g => ⟨fun t h k => g t h fun v => k v h⟩
  | [r, s] => W.on (rsQ r) fun f => W.on (rsQ s) fun g => ⟨fun t h k => f t h fun v => g t h fun w => k (.tu [v, w]) h⟩
  | rs => ⟨fun t h k => resK rs t h fun vs => forceV (one vs) fun v => k v h⟩
noncomputable def rK (r : Rq) (k : V → H → Bool) (x : X) (t : F) (h : H) : Bool :=
  X.rec (fun r k t h => r t h k) (fun _ _ _ _ _ => false) (fun r k t h => r t h k) x r k t h
noncomputable def uF : F8 V := ⟨.u, .u, .u, .u, .u, .u, .u, .u⟩
noncomputable def uGq : F8 (F8 V) := ⟨uF, uF, uF, uF, uF, uF, uF, uF⟩
noncomputable def f1 (x : F8 V) : F := ⟨⟨x, uF, uF, uF, uF, uF, uF, uF⟩, uGq, uGq, uGq, uGq, uGq, uGq, uGq⟩
noncomputable def roomQ (n nt dm : Nat) : Bool := bAnd (Nat.ble n nt) (Nat.beq (Nat.mod dm (Nat.pow 2 n)) 0)
noncomputable def arF (args : List V) (nt dm : Nat) (k : F → Bool) : Bool :=
  List.rec (fun _ _ k => k (f1 uF)) (fun a r _ nt dm k =>
   List.rec (fun a nt dm k => Bool.rec (fun _ _ => false) (fun a k => k (f1 ⟨a, .u, .u, .u, .u, .u, .u, .u⟩)) (roomQ 1 nt dm) a k) (fun b r _ a nt dm k =>
    List.rec (fun a b nt dm k => Bool.rec (fun _ _ _ => false) (fun a b k => k (f1 ⟨a, b, .u, .u, .u, .u, .u, .u⟩)) (roomQ 2 nt dm) a b k) (fun c r _ a b nt dm k =>
     List.rec (fun a b c nt dm k => Bool.rec (fun _ _ _ _ => false) (fun a b c k => k (f1 ⟨a, b, c, .u, .u, .u, .u, .u⟩)) (roomQ 3 nt dm) a b c k) (fun d r _ a b c nt dm k =>
      List.rec (fun a b c d nt dm k => Bool.rec (fun _ _ _ _ _ => false) (fun a b c d k => k (f1 ⟨a, b, c, d, .u, .u, .u, .u⟩)) (roomQ 4 nt dm) a b c d k) (fun e r _ a b c d nt dm k =>
       ifK (roomQ (a :: b :: c :: d :: e :: r).length nt dm) fun _ => ifK (Nat.ble (a :: b :: c :: d :: e :: r).length 512) fun _ => slots (a :: b :: c :: d :: e :: r) 0 F.zero k)
      r a b c d nt dm k) r a b c nt dm k) r a b nt dm k) r a nt dm k) args nt dm k
structure QF where
  nt : Nat
  dm : Nat
  body : StF
  res : Rq
noncomputable def mkQF (nt dm : Nat) (b : W StF) (r : W Rq) : QF := W.rec (fun b => W.rec (fun r => ⟨nt, dm, b, r⟩) r) b
noncomputable def noQF : QF := ⟨0, 0, fun _ _ _ _ _ => false, fun _ _ _ => false⟩
/-- a function laid out, with its hints -/
noncomputable def qFn2 (P : Program) (f dm am : Nat) : QF := match lgQ P.funcs.toList f with
  | none => noQF
  | some fn => match fn.body, fn.name == "runtime.NumGoroutine" with
    | some b, false => mkQF fn.ntmps dm (sC P fn.ntmps dm am b .zero fun _ => endQ) (rtQ (fn.results.toList.map (rsOf P)))
    | _, _ => noQF
abbrev Hints := Nat → Nat × Nat
noncomputable def qFn (hs : Hints) (P : Program) (f : Nat) : QF := Prod.rec (fun dm am => qFn2 P f dm am) (hs f)
noncomputable def cfQ (hs : Hints) (tb : Nat → Option Sp) (P : Program) (n : Nat) : CallF :=
  Nat.rec (fun _ _ _ _ => false) (fun _ cf f args h k => Option.rec (fun cf f args h k => QF.rec (fun nt dm b r cf args h k => arF args nt dm fun t => b cf t [] h (rK r k)) (qFn hs P f) cf args h k) (fun g _ _ args h k => g args h k) (tb f) cf f args h k) n
noncomputable def runQ (hs : Hints) (tb : Nat → Option Sp) (P : Program) (fuel : Nat) (f : Nat) (args : List V) : Bool := cfQ hs tb P fuel f args H.zero isTrue
end Go.Ev

set_option linter.all false
namespace Go.Ev
open Go
theorem W.on_out {α β : Type} (w : W α) (f : α → W β) : (W.on w f).out = (f w.out).out := by cases w; rfl
theorem W.mk_out {α : Type} (f : α) : (W.mk f).out = f := rfl
theorem gq0_out (s : S8) (x : F8 V) (k : V → Bool) : (gq0 s).out x k = k (get8 s x) := by cases s <;> cases x <;> rfl
theorem gq1_out {α : Type} (s : S8) (m : α → (V → Bool) → Bool) (x : F8 α) (k : V → Bool) : (gq1 s m).out x k = m (get8 s x) k := by cases s <;> cases x <;> rfl
theorem pq0_out (s : S8) (v : V) (x : F8 V) (k : F8 V → Bool) : (pq0 s).out v x k = set8 s v x k := by cases s <;> cases x <;> rfl
theorem pq1_out {α : Type} (s : S8) (m : V → α → (α → Bool) → Bool) (v : V) (x : F8 α) (k : F8 α → Bool) : (pq1 s m).out v x k = m v (get8 s x) fun a => set8 s a x k := by cases s <;> cases x <;> rfl
theorem gq2_out {α : Type} (s : S8) (m : α → (V → Bool) → Bool) (x : F8 α) (e : E) (k : V → Bool) : (gq2 s m).out x e k = m (get8 s x) k := by cases s <;> cases x <;> rfl
theorem gq_out (s : Sl) (t : F) (e : E) (k : V → Bool) : (gq s).out t e k = k (sGet s t) := by
  obtain ⟨x, y, z⟩ := s
  show (W.on (gq0 z) fun m => W.on (gq1 y m) fun m => gq2 x m).out t e k = _
  rw [W.on_out, W.on_out, gq2_out, gq1_out, gq0_out]; rfl
theorem pq_out (s : Sl) (v : V) (t : F) (k : F → Bool) : (pq s).out v t k = sPut s v t k := by
  obtain ⟨x, y, z⟩ := s
  show (W.on (pq0 z) fun m => W.on (pq1 y m) fun m => pq1 x m).out v t k = _
  rw [W.on_out, W.on_out, pq1_out, pq1_out, pq0_out]; rfl
theorem oQ_out (o : O) (t : F) (e : E) (k : V → Bool) : (oQ o).out t e k = k (oV o t) := by
  cases o with
  | t s => exact gq_out s t e k
  | c v => rfl
theorem lg_eq {α : Type} : ∀ (l : List α) (n : Nat), lgQ l n = l[n]? := by
  intro l
  induction l with
  | nil => intro n; rfl
  | cons a l ih =>
    intro n
    cases n with
    | zero => rfl
    | succ n => show lgQ l n = _; rw [ih, List.getElem?_cons_succ]
theorem tyQ_eq (P : Program) (t : Nat) : tyQ P t = tyAt P t := by
  unfold tyQ tyAt
  simp only [lg_eq]
  rfl
theorem dQ_out (d : D) (v : V) (t : F) (k : F → Bool) : (dQ d).out v t k = putD d v t k := by
  cases d with
  | none => rfl
  | some s => exact pq_out s v t k
  | bad => rfl
theorem frcQ_eq (h : H) (k : V → H → Bool) (v : V) : frcQ h k v = k v h := by cases v <;> rfl
theorem fpQ_eq (n : Nat) (id : B) (g fin : Nat) (h : H) (k : V → H → Bool) : fpQ n id g fin h k = k (.p id g n fin) h := by cases n <;> rfl
theorem fiQ_eq (n : Nat) (kd : IntKind) (h : H) (k : V → H → Bool) : fiQ n kd h k = k (.i kd (.ofNat n)) h := by cases n <;> rfl
theorem kB_eq (b : Bool) (h : H) (k : V → H → Bool) : kB b h k = k (.b b) h := by cases b <;> rfl
theorem mxQ_eq (kd : IntKind) : mxQ kd = mxOf kd := by cases kd <;> rfl
theorem kdQ_eq (a b : IntKind) : kdQ a b = kdEq a b := by cases a <;> cases b <;> rfl
theorem bAnd_eq (a b : Bool) : bAnd a b = (a && b) := by cases a <;> rfl
theorem notQ_eq (a : Bool) : notQ a = !a := by cases a <;> rfl
theorem ltQ_eq (a b : Int) : ltQ a b = ltI a b := by cases a <;> cases b <;> rfl
theorem eqQ_eq (a b : Int) : eqQ a b = eqI a b := by cases a <;> cases b <;> rfl
theorem ldC_eq (o : Option V) (h : H) (k : V → H → Bool) : ldC o h k = optK o fun v => k v h := by
  cases o with
  | none => rfl
  | some v => exact frcQ_eq h k v
theorem ldP_eq (id : B) (g off fin : Nat) (h : H) (k : V → H → Bool) : ldP id g off fin h k = load1 h id g off fin fun v => k v h := by
  obtain ⟨n, f, heap⟩ := h
  show ldB (T.get heap id) g off fin _ k = optK (T.get heap id) _
  cases T.get heap id with
  | none => rfl
  | some b =>
    obtain ⟨cur, min, size, cells, el, fr⟩ := b
    show Bool.rec (motive := fun _ => T V → Nat → H → (V → H → Bool) → Bool) _ _ (bAnd (Nat.ble min g) (Nat.ble (Nat.succ off) fin)) cells off _ k = ifK (Nat.ble min g) fun _ => ifK (Nat.ble (Nat.succ off) fin) fun _ => _
    cases Nat.ble min g with
    | false => rfl
    | true =>
      cases Nat.ble (Nat.succ off) fin with
      | false => rfl
      | true =>
        show ldC (T.getN cells off) _ k = optK (T.getN cells off) fun v => forceV v _
        rw [ldC_eq]
        simp only [forceV_eq]
theorem ldV_eq (h : H) (k : V → H → Bool) (v : V) : ldV h k v = vP v fun id g off fin => load1 h id g off fin fun v => k v h := by
  cases v <;> first | rfl | exact ldP_eq _ _ _ _ h k
theorem faV_eq (d : Nat) (h : H) (k : V → H → Bool) (v : V) : faV d h k v = vP v fun id g off fin => fN (Nat.add off d) fun off => k (.p id g off fin) h := by
  cases v <;> first | rfl | (simp only [vP_p, fN_eq]; exact fpQ_eq _ _ _ _ h k)
theorem ncV_eq (h : H) (k : V → H → Bool) (v : V) : ncV h k v = vP v fun id g off fin => k (.p id g off fin) h := by cases v <;> rfl
theorem ixI_eq (y : V) (size : Nat) (id : B) (g off len fin : Nat) (h : H) (k : V → H → Bool) :
    ixI y size id g off len fin h k = vI y fun _ n => natK n fun n => ifK (Nat.ble (Nat.succ n) len) fun _ => fN (Nat.add off (Nat.mul n size)) fun off => k (.p id g off fin) h := by
  cases y <;> try rfl
  rename_i kd n
  cases n with
  | negSucc n => rfl
  | ofNat n =>
    simp only [vI_i, natK_ofNat, fN_eq]
    show Bool.rec (motive := fun _ => Nat → Nat → B → Nat → Nat → Nat → H → (V → H → Bool) → Bool) _ _ (Nat.ble (Nat.succ n) len) n size id g off fin h k = _
    cases Nat.ble (Nat.succ n) len with
    | false => rfl
    | true => exact fpQ_eq _ _ _ _ h k
theorem ixL_eq (size : Nat) (v : V) (h : H) (k : V → H → Bool) (y : V) : ixL size v h k y = vL v (fun _ => false) fun id g off len fin _ => vI y fun _ n => natK n fun n => ifK (Nat.ble (Nat.succ n) len) fun _ => fN (Nat.add off (Nat.mul n size)) fun off => k (.p id g off fin) h := by
  cases v <;> first | rfl | exact ixI_eq _ _ _ _ _ _ _ h k
theorem ixA_eq (len size : Nat) (v : V) (h : H) (k : V → H → Bool) (y : V) : ixA len size v h k y = vP v fun id g off fin => vI y fun _ n => natK n fun n => ifK (Nat.ble (Nat.succ n) len) fun _ => fN (Nat.add off (Nat.mul n size)) fun off => k (.p id g off fin) h := by
  cases v <;> first | rfl | exact ixI_eq _ _ _ _ _ _ _ h k
/-- a quick operation of numbers is that operation -/
def BqOk (q : Bq) (f : BinF) : Prop := ∀ kd a b h k, q kd a b h k = f kd a b fun v => k v h
theorem b2x_eq {q : Bq} {f : BinF} (hq : BqOk q f) (x : V) (h : H) (k : V → H → Bool) (y : V) : b2x q x h k y = vI x fun kd a => vI y fun kd' b => ifK (kdEq kd kd') fun _ => f kd a b fun v => k v h := by
  cases x <;> try rfl
  rename_i kd a
  simp only [vI_i]
  show b2y y q kd a h k = _
  cases y <;> try rfl
  rename_i kd' b
  simp only [vI_i, ← kdQ_eq]
  show Bool.rec (motive := fun _ => Bq → IntKind → Int → Int → H → (V → H → Bool) → Bool) _ _ (kdQ kd kd') q kd a b h k = _
  cases kdQ kd kd' with
  | false => rfl
  | true => exact hq kd a b h k
theorem wrQ_eq (s : Nat) (kd : IntKind) (h : H) (k : V → H → Bool) : wrQ s kd h k = wrapF (.ofNat s) kd (mxOf kd) fun v => k v h := by
  show Bool.rec (motive := fun _ => Nat → IntKind → H → (V → H → Bool) → Bool) _ _ (Nat.ble s (mxQ kd)) s kd h k = wrapB (Nat.ble s (mxOf kd)) kd s _
  rw [mxQ_eq]
  cases Nat.ble s (mxOf kd) with
  | false => rfl
  | true =>
    show fiQ s kd h k = fN s _
    rw [fiQ_eq, fN_eq]
theorem oldQ_ok (f : BinF) : BqOk (oldQ f) f := fun _ _ _ _ _ => rfl
theorem addQ_ok : BqOk addQ fAdd := by
  intro kd a b h k
  cases a with
  | negSucc m => rfl
  | ofNat m =>
    cases b with
    | negSucc n => rfl
    | ofNat n => exact wrQ_eq (m + n) kd h k
theorem mulQ_ok : BqOk mulQ fMul := by
  intro kd a b h k
  cases a with
  | negSucc m => rfl
  | ofNat m =>
    cases b with
    | negSucc n => rfl
    | ofNat n => exact wrQ_eq (m * n) kd h k
theorem subQ_ok : BqOk subQ fSub := by
  intro kd a b h k
  cases a with
  | negSucc m => rfl
  | ofNat m =>
    cases b with
    | negSucc n => rfl
    | ofNat n =>
      show Bool.rec (motive := fun _ => Nat → Nat → IntKind → H → (V → H → Bool) → Bool) _ _ (Nat.ble n m) n m kd h k = _
      cases hb : Nat.ble n m with
      | false => rfl
      | true =>
        have hle : n ≤ m := Nat.le_of_ble_eq_true hb
        have e : Int.sub (.ofNat m) (.ofNat n) = .ofNat (m - n) := by
          show (m : Int) - (n : Int) = ((m - n : Nat) : Int)
          omega
        show wrQ (m - n) kd h k = wrapF (Int.sub (.ofNat m) (.ofNat n)) kd (mxOf kd) _
        rw [e]; exact wrQ_eq (m - n) kd h k
theorem bqOf_ok (op : BinOp) : BqOk (bqOf op).out (fOf op) := by
  have cmp : ∀ (f : Int → Int → Bool) (g : Int → Int → Bool), (∀ a b, f a b = g a b) → BqOk (fun _ a b h k => kB (f a b) h k) (fun _ a b k => fB (g a b) k) := by
    intro f g hfg kd a b h k
    show kB (f a b) h k = fB (g a b) _
    rw [kB_eq, fB_eq, hfg]
  cases op <;> first
    | exact addQ_ok | exact subQ_ok | exact mulQ_ok | exact oldQ_ok _
    | exact cmp _ (fun a b => ltI a b) fun a b => ltQ_eq a b
    | exact cmp _ (fun a b => ltI b a) fun a b => ltQ_eq b a
    | exact cmp _ (fun a b => !ltI b a) fun a b => by rw [notQ_eq, ltQ_eq]
    | exact cmp _ (fun a b => !ltI a b) fun a b => by rw [notQ_eq, ltQ_eq]
    | exact cmp _ (fun a b => eqI a b) fun a b => eqQ_eq a b
    | exact cmp _ (fun a b => !eqI a b) fun a b => by rw [notQ_eq, eqQ_eq]
theorem s2x_eq (q : SqF) (x : V) (h : H) (k : V → H → Bool) (y : V) : s2x q x h k y = vS x fun la na => vS y fun lb nb => fB (q la na lb nb) fun v => k v h := by
  cases x <;> try rfl
  cases y <;> try rfl
  rename_i la na lb nb
  simp only [vS_s, fB_eq]
  exact kB_eq _ h k
theorem lnV_eq (h : H) (k : V → H → Bool) (v : V) : lnV h k v = vL v (fun _ => k (.i .i64 (.ofNat 0)) h) fun _ _ _ n _ _ => k (.i .i64 (.ofNat n)) h := by cases v <;> rfl
theorem lsV_eq (h : H) (k : V → H → Bool) (v : V) : lsV h k v = vS v fun n _ => k (.i .i64 (.ofNat n)) h := by cases v <;> rfl
theorem ntV_eq (h : H) (k : V → H → Bool) (v : V) : ntV h k v = vB v fun a => fB (!a) fun v => k v h := by
  cases v <;> try rfl
  rename_i x
  simp only [vB_b, fB_eq, ← notQ_eq]
  exact kB_eq _ h k
theorem nth_eq : ∀ (j : Nat) (l : List V) (h : H) (k : V → H → Bool), (nth j).out l h k = optK l[j]? fun v => k v h := by
  intro j
  induction j with
  | zero =>
    intro l h k
    cases l with
    | nil => rfl
    | cons v l => exact frcQ_eq h k v
  | succ j ih =>
    intro l h k
    show (W.on (nth j) fun m => ⟨fun l h k => List.rec (motive := fun _ => H → (V → H → Bool) → Bool) (fun _ _ => false) (fun _ l _ h k => m l h k) l h k⟩).out l h k = _
    rw [W.on_out]
    cases l with
    | nil => rfl
    | cons v l =>
      show (nth j).out l h k = _
      rw [ih, List.getElem?_cons_succ]
theorem exV_eq (j : Nat) (h : H) (k : V → H → Bool) (v : V) : exV (nth j).out h k v = vT v fun vs => optK vs[j]? fun v => k v h := by
  cases v <;> first | rfl | exact nth_eq j _ h k
theorem fdV_eq (j : Nat) (h : H) (k : V → H → Bool) (v : V) : fdV (nth j).out h k v = vA v fun vs => optK vs[j]? fun v => k v h := by
  cases v <;> first | rfl | exact nth_eq j _ h k
/-- what a getter sees is what the evaluator's operand is at that frame -/
def Sees (t : F) (e : E) (s : F) (g : W Gq) (x : O) : Prop := ∀ k, g.out t e k = k (oV x s)
def SameR (t : F) (e : E) (s : F) (r : W Rv) (c : CR) : Prop := ∀ cf h k, r.out cf t e h k = runK c cf s h k
section
variable {t : F} {e : E} {s : F} {g g' : W Gq} {x x' : O}
theorem mv_same (hx : Sees t e s g x) : SameR t e s (mvQ g) ⟨doMove x⟩ := fun cf h k => by
  unfold mvQ; rw [W.on_out]; show g.out t e _ = oK x s _; rw [hx, oK_eq]
theorem load_same (hx : Sees t e s g x) : SameR t e s (loadQ g) ⟨doLoad x⟩ := fun cf h k => by
  unfold loadQ; rw [W.on_out]; show g.out t e _ = oE x s _; rw [hx, oE_eq, ldV_eq]
theorem fa_same (d : Nat) (hx : Sees t e s g x) : SameR t e s (faQ d g) ⟨doFieldAddr d x⟩ := fun cf h k => by
  unfold faQ; rw [W.on_out]; show g.out t e _ = oE x s _; rw [hx, oE_eq, faV_eq]
theorem nc_same (hx : Sees t e s g x) : SameR t e s (ncQ g) ⟨doNilCheck x⟩ := fun cf h k => by
  unfold ncQ; rw [W.on_out]; show g.out t e _ = oE x s _; rw [hx, oE_eq, ncV_eq]
theorem ix_same (size : Nat) (hx : Sees t e s g x) (hy : Sees t e s g' x') : SameR t e s (ixQ size g g') ⟨doIndexAddr size x x'⟩ := fun cf h k => by
  unfold ixQ; rw [W.on_out, W.on_out]; show (g.out t e fun v => g'.out t e (ixL size v h k)) = doIndexAddr size x x' cf s h k
  rw [hx, hy, ixL_eq]; simp only [doIndexAddr, oE_eq]
theorem ixA_same (len size : Nat) (hx : Sees t e s g x) (hy : Sees t e s g' x') : SameR t e s (ixAQ len size g g') ⟨doIndexAddrArr len size x x'⟩ := fun cf h k => by
  unfold ixAQ; rw [W.on_out, W.on_out]; show (g.out t e fun v => g'.out t e (ixA len size v h k)) = doIndexAddrArr len size x x' cf s h k
  rw [hx, hy, ixA_eq]; simp only [doIndexAddrArr, oE_eq]
theorem bin_same {q : Bq} {f : BinF} (hq : BqOk q f) (hx : Sees t e s g x) (hy : Sees t e s g' x') : SameR t e s (binQ q g g') ⟨bin2 f x x'⟩ := fun cf h k => by
  unfold binQ; rw [W.on_out, W.on_out]; show (g.out t e fun v => g'.out t e (b2x q v h k)) = bin2 f x x' cf s h k
  rw [hx, hy, b2x_eq hq]; simp only [bin2, oE_eq]
theorem sc_same {q f : SqF} (hq : ∀ a b c d, q a b c d = f a b c d) (hx : Sees t e s g x) (hy : Sees t e s g' x') : SameR t e s (scQ q g g') ⟨doSCmp f x x'⟩ := fun cf h k => by
  have : q = f := by funext a b c d; exact hq a b c d
  subst this
  unfold scQ; rw [W.on_out, W.on_out]; show (g.out t e fun v => g'.out t e (s2x q v h k)) = doSCmp q x x' cf s h k
  rw [hx, hy, s2x_eq]; simp only [doSCmp, oE_eq]
theorem ln_same (hx : Sees t e s g x) : SameR t e s (lnQ g) ⟨doLen x⟩ := fun cf h k => by
  unfold lnQ; rw [W.on_out]; show g.out t e _ = oE x s _; rw [hx, oE_eq, lnV_eq]
theorem ls_same (hx : Sees t e s g x) : SameR t e s (lsQ g) ⟨doLenS x⟩ := fun cf h k => by
  unfold lsQ; rw [W.on_out]; show g.out t e _ = oE x s _; rw [hx, oE_eq, lsV_eq]
theorem nt_same (hx : Sees t e s g x) : SameR t e s (ntQ g) ⟨doNot x⟩ := fun cf h k => by
  unfold ntQ; rw [W.on_out]; show g.out t e _ = oE x s _; rw [hx, oE_eq, ntV_eq]
theorem ex_same (j : Nat) (hx : Sees t e s g x) : SameR t e s (exQ j g) ⟨doExtract j x⟩ := fun cf h k => by
  unfold exQ; rw [W.on_out, W.on_out]; show g.out t e (exV (nth j).out h k) = doExtract j x cf s h k
  rw [hx, exV_eq]; simp only [doExtract, oE_eq, forceV_eq]
theorem fd_same (j : Nat) (hx : Sees t e s g x) : SameR t e s (fdQ j g) ⟨doField j x⟩ := fun cf h k => by
  unfold fdQ; rw [W.on_out, W.on_out]; show g.out t e (fdV (nth j).out h k) = doField j x cf s h k
  rw [hx, fdV_eq]; simp only [doField, oE_eq, forceV_eq]
theorem dy1_same {r : O → Run} (hr : ∀ cf h k, r (.c (oV x s)) cf F.zero h k = r x cf s h k) (hx : Sees t e s g x) : SameR t e s (dyQ1 r g) ⟨r x⟩ := fun cf h k => by
  unfold dyQ1; rw [W.on_out]; show g.out t e _ = r x cf s h k; rw [hx, hr]
theorem dy2_same {r : O → O → Run} (hr : ∀ cf h k, r (.c (oV x s)) (.c (oV x' s)) cf F.zero h k = r x x' cf s h k) (hx : Sees t e s g x) (hy : Sees t e s g' x') : SameR t e s (dyQ2 r g g') ⟨r x x'⟩ := fun cf h k => by
  unfold dyQ2; rw [W.on_out, W.on_out]; show (g.out t e fun v => g'.out t e fun w => r (.c v) (.c w) cf F.zero h k) = r x x' cf s h k; rw [hx, hy, hr]
end
theorem oV_cQ (v : V) (t : F) : oV (.c v) t = v := rfl
theorem dy3_same {t : F} {e : E} {s : F} {g g' g'' : W Gq} {x x' x'' : O} {r : O → O → O → Run} (hr : ∀ cf h k, r (.c (oV x s)) (.c (oV x' s)) (.c (oV x'' s)) cf F.zero h k = r x x' x'' cf s h k) (hx : Sees t e s g x) (hy : Sees t e s g' x') (hz : Sees t e s g'' x'') : SameR t e s (dyQ3 r g g' g'') ⟨r x x' x''⟩ := fun cf h k => by
  unfold dyQ3; rw [W.on_out, W.on_out, W.on_out]; show (g.out t e fun u => g'.out t e fun v => g''.out t e fun w => r (.c u) (.c v) (.c w) cf F.zero h k) = r x x' x'' cf s h k; rw [hx, hy, hz, hr]
theorem arQ_eq {t : F} {e : E} {s : F} {rs : Operand → W Gq} (hr : ∀ x, Sees t e s (rs x) (compO x)) (os : List Operand) : ∀ k, (arQ (os.map rs)).out t e k = evalsK (os.map compO) s k := by
  induction os with
  | nil => intro k; rfl
  | cons o os ih =>
    intro k
    show (W.on (rs o) fun g => W.on (arQ (os.map rs)) fun m => ⟨fun t e k => g t e fun v => m t e fun vs => k (v :: vs)⟩).out t e k = oK (compO o) s fun v => evalsK (os.map compO) s fun vs => k (v :: vs)
    rw [W.on_out, W.on_out, W.mk_out, hr, oK_eq, ih]
theorem fill_zip {s t' : F} : ∀ (ps : List Pt) (cs : List V) (k : List V → Bool), fillL (zipP ps (ps.map fun p => oV p.o s)) t' cs k = fillL ps s cs k := by
  intro ps
  induction ps with
  | nil => intro cs k; rfl
  | cons p ps ih =>
    intro cs k
    obtain ⟨off, size, o⟩ := p
    show (ifK (knownV (oV o s)) fun _ => ifK (Nat.beq (cells (oV o s)).length size) fun _ => ifK (Nat.ble (Nat.add off size) cs.length) fun _ => fillL (zipP ps (ps.map fun p => oV p.o s)) t' (putAt cs off (cells (oV o s))) k)
      = oK o s fun v => ifK (knownV v) fun _ => ifK (Nat.beq (cells v).length size) fun _ => ifK (Nat.ble (Nat.add off size) cs.length) fun _ => fillL ps s (putAt cs off (cells v)) k
    rw [oK_eq]
    simp only [ih]
theorem dyL_same {t : F} {e : E} {s : F} {rs : Operand → W Gq} (hr : ∀ x, Sees t e s (rs x) (compO x)) {r : List Pt → Run} {ps : List Pt} {parts : List (Nat × Operand)} (hp : ps.map (fun p => p.o) = parts.map fun p => compO p.2)
    (hq : ∀ cf h k, r (zipP ps (ps.map fun p => oV p.o s)) cf F.zero h k = r ps cf s h k) : SameR t e s (dyQL r ps (parts.map fun p => rs p.2)) ⟨r ps⟩ := fun cf h k => by
  unfold dyQL
  rw [W.on_out]
  show (arQ (parts.map fun p => rs p.2)).out t e (fun vs => r (zipP ps vs) cf F.zero h k) = r ps cf s h k
  have e1 : (parts.map fun p => rs p.2) = (parts.map Prod.snd).map rs := by rw [List.map_map]; rfl
  have e2 : ((parts.map Prod.snd).map fun x => oV (compO x) s) = ps.map fun p => oV p.o s := by
    have := congrArg (List.map fun o => oV o s) hp
    rw [List.map_map, List.map_map] at this
    rw [List.map_map]
    exact this.symm
  rw [e1, arQ_eq hr, evalsK_ok, e2, hq]
theorem compParts_o {P : Program} {fs : List Field} : ∀ {parts : List (Nat × Operand)} {ps : List Pt}, compParts P fs parts = some ps → ps.map (fun p => p.o) = parts.map fun p => compO p.2 := by
  intro parts
  induction parts with
  | nil => intro ps h; cases h; rfl
  | cons q parts ih =>
    intro ps h
    obtain ⟨k, x⟩ := q
    simp only [compParts] at h
    split at h
    · cases h
    · split at h
      · cases h
        rename_i h2
        simp only [List.map_cons, ih h2]
      · cases h
theorem compPartsA_o (size : Nat) : ∀ (parts : List (Nat × Operand)), (compPartsA size parts).map (fun p => p.o) = parts.map fun p => compO p.2 := by
  intro parts
  induction parts with
  | nil => rfl
  | cons q parts ih => obtain ⟨k, x⟩ := q; simp only [compPartsA, List.map_cons, ih]
section
variable {P : Program} {t : F} {e : E} {s : F} {g g' : W Gq} {x x' : O} {r : W Rv}
theorem qLoad_same {ty : Option Ty} (hx : Sees t e s g x) (h : qLoad ty g = some r) : SameR t e s r (compLoad ty x) := by
  rcases ty with _ | ⟨size, b, d, z⟩
  · cases h
  · simp only [qLoad, compLoad] at h ⊢
    cases hd : isAggD d with
    | true => rw [hd] at h; cases h; exact dy1_same (r := doLoadA size) (fun cf h k => by simp only [doLoadA, oE_eq, oV_cQ]) hx
    | false => rw [hd] at h; cases h; exact load_same hx
theorem qStore_same {ty : Option Ty} (hx : Sees t e s g x) (hy : Sees t e s g' x') (h : qStore ty g g' = some r) : SameR t e s r (compStore ty x x') := by
  rcases ty with _ | ⟨size, b, d, z⟩
  · cases h
  · simp only [qStore] at h
    cases h
    exact dy2_same (r := doStore size) (fun cf h k => by simp only [doStore, oE_eq, oK_eq, oV_cQ]) hx hy
theorem qFieldAddr_same {ty : Option Ty} {k : Nat} (hx : Sees t e s g x) (h : qFieldAddr P ty k g = some r) : SameR t e s r (compFieldAddr P ty k x) := by
  unfold qFieldAddr at h; unfold compFieldAddr
  simp only [tyQ_eq, lg_eq] at h
  repeat' split at h
  all_goals first | cases h | skip
  simp only [*]
  exact fa_same _ hx
theorem qField_same {ty : Option Ty} {k : Nat} (hx : Sees t e s g x) (h : qField P ty k g = some r) : SameR t e s r (compField P ty k x) := by
  unfold qField at h; unfold compField
  simp only [tyQ_eq, lg_eq] at h
  repeat' split at h
  all_goals first | cases h | skip
  · simp only [*]
    exact dy1_same (r := doFieldA _ _) (fun cf h k => by simp only [doFieldA, oE_eq, oV_cQ]) hx
  · simp only [*]
    exact fd_same _ hx
theorem qIndexAddr_same {ty : Option Ty} (hx : Sees t e s g x) (hy : Sees t e s g' x') (h : qIndexAddr P ty g g' = some r) : SameR t e s r (compIndexAddr P ty x x') := by
  unfold qIndexAddr at h; unfold compIndexAddr
  simp only [tyQ_eq] at h
  repeat' split at h
  all_goals first | cases h | skip
  · simp only [*]; exact ix_same _ hx hy
  · simp only [*]; exact ixA_same _ _ hx hy
theorem qBinI_same {op : BinOp} (hx : Sees t e s g x) (hy : Sees t e s g' x') (h : qBinI op g g' = some r) : SameR t e s r (compBinI op x x') := by
  have b : ∀ op, SameR t e s (W.on (bqOf op) fun q => binQ q g g') ⟨bin2 (fOf op) x x'⟩ := fun op cf h k => by rw [W.on_out]; exact bin_same (bqOf_ok op) hx hy cf h k
  cases op <;> (cases h <;> first | exact b .add | exact b .sub | exact b .mul | exact b .quo | exact b .and | exact b .or | exact b .xor | exact b .andNot | exact b .eql | exact b .neq | exact b .lss | exact b .gtr | exact b .leq | exact b .geq | exact dy2_same (r := doRem) (fun cf h k => by simp only [doRem, oE_eq, oK_eq, oV_cQ]) hx hy | exact dy2_same (r := doShift shlF) (fun cf h k => by simp only [doShift, oE_eq, oV_cQ]) hx hy | exact dy2_same (r := doShift shrF) (fun cf h k => by simp only [doShift, oE_eq, oV_cQ]) hx hy)
theorem qBinS_same {op : BinOp} (hx : Sees t e s g x) (hy : Sees t e s g' x') (h : qBinS op g g' = some r) : SameR t e s r (compBinS op x x') := by
  cases op <;> (cases h <;> first | exact dy2_same (r := doConcat) (fun cf h k => by simp only [doConcat, oE_eq, oV_cQ]) hx hy | exact sc_same (fun a b c d => bAnd_eq _ _) hx hy | exact sc_same (fun a b c d => by show notQ (bAnd _ _) = _; rw [notQ_eq, bAnd_eq]; rfl) hx hy | exact sc_same (fun _ _ _ _ => rfl) hx hy)
theorem qNil_same {f : V → (Bool → Bool) → Bool} {op : BinOp} (hx : Sees t e s g x) (hy : Sees t e s g' x') (h : qNil f op g g' = some r) : SameR t e s r (compBinN f op x x') := by
  cases op <;> (cases h <;> first | exact dy2_same (r := doNil f false) (fun cf h k => by simp only [doNil, oE_eq, oV_cQ]) hx hy | exact dy2_same (r := doNil f true) (fun cf h k => by simp only [doNil, oE_eq, oV_cQ]) hx hy)
theorem qBinB_same {op : BinOp} (hx : Sees t e s g x) (hy : Sees t e s g' x') (h : qBinB op g g' = some r) : SameR t e s r (compBinB op x x') := by
  cases op <;> (cases h <;> first | exact dy2_same (r := doBool false) (fun cf h k => by simp only [doBool, oE_eq, oV_cQ]) hx hy | exact dy2_same (r := doBool true) (fun cf h k => by simp only [doBool, oE_eq, oV_cQ]) hx hy)
theorem qPtr_same {ne : Bool} {ty : Option Ty} (hx : Sees t e s g x) (hy : Sees t e s g' x') (h : qPtr ne ty g g' = some r) : SameR t e s r (compPtr ne ty x x') := by
  unfold qPtr at h; unfold compPtr
  split at h
  · cases h; exact dy2_same (r := doPtr ne) (fun cf h k => by simp only [doPtr, oE_eq, oV_cQ]) hx hy
  · cases h
theorem qBinP_same {ty : Option Ty} {op : BinOp} (hx : Sees t e s g x) (hy : Sees t e s g' x') (h : qBinP ty op g g' = some r) : SameR t e s r (compBinP ty op x x') := by
  cases op <;> first | (cases h; done) | exact qPtr_same hx hy h
theorem qSEq2_same {ks : List KD} {op : BinOp} (hx : Sees t e s g x) (hy : Sees t e s g' x') (h : qSEq2 ks op g g' = some r) : SameR t e s r (compSEq2 ks op x x') := by
  cases op <;> (cases h <;> first | exact dy2_same (r := doSEq ks false) (fun cf h k => by simp only [doSEq, oE_eq, oV_cQ]) hx hy | exact dy2_same (r := doSEq ks true) (fun cf h k => by simp only [doSEq, oE_eq, oV_cQ]) hx hy)
theorem qSEq_same {tx : TypeId} {fs : Array Field} {op : BinOp} (hx : Sees t e s g x) (hy : Sees t e s g' x') (h : qSEq P tx fs op g g' = some r) : SameR t e s r (compSEq P tx fs op x x') := by
  unfold qSEq at h; unfold compSEq
  split at h
  · simp only [*]; exact qSEq2_same hx hy h
  · cases h
theorem qBin_same {op : BinOp} {tx : TypeId} (hx : Sees t e s g x) (hy : Sees t e s g' x') (h : qBin P op tx g g' = some r) : SameR t e s r (compBin P op tx x x') := by
  unfold qBin at h; unfold compBin
  simp only [tyQ_eq] at h
  split at h
  · simp only [*]; exact qBinI_same hx hy h
  · simp only [*]; exact qBinS_same hx hy h
  · simp only [*]; exact qNil_same hx hy h
  · simp only [*]; exact qNil_same hx hy h
  · simp only [*]; exact qBinB_same hx hy h
  · simp only [*]; exact qBinP_same hx hy h
  · simp only [*]; exact qSEq_same hx hy h
  · cases h
theorem qUn_same {op : UnOp} (hx : Sees t e s g x) (h : qUn op g = some r) : SameR t e s r (compUn op x) := by
  cases op <;> (cases h <;> first | exact nt_same hx | exact dy1_same (r := doNeg) (fun cf h k => by simp only [doNeg, oE_eq, oV_cQ]) hx)
theorem qB2S_same {ty : Option Ty} (hx : Sees t e s g x) (h : qB2S ty g = some r) : SameR t e s r (compB2S ty x) := by
  unfold qB2S at h; unfold compB2S
  split at h
  · cases h; exact dy1_same (r := doB2S) (fun cf h k => by simp only [doB2S, oE_eq, oV_cQ]) hx
  · cases h
theorem qConv_same {a b : TypeId} (hx : Sees t e s g x) (h : qConv P a b g = some r) : SameR t e s r (compConv P a b x) := by
  unfold qConv at h; unfold compConv
  simp only [tyQ_eq] at h
  split at h
  · cases h
    simp only [*]
    exact dy1_same (r := doConv _) (fun cf h k => by simp only [doConv, oE_eq, oV_cQ]) hx
  · simp only [*]; exact qB2S_same hx h
  · cases h
theorem qIndexA_same {len : Nat} {ty : Option Ty} (hx : Sees t e s g x) (hy : Sees t e s g' x') (h : qIndexA len ty g g' = some r) : SameR t e s r (compIndexA len ty x x') := by
  rcases ty with _ | ⟨size, b, d, z⟩
  · cases h
  · simp only [qIndexA, compIndexA] at h ⊢
    cases hd : isAggD d with
    | true => rw [hd] at h; cases h
    | false => rw [hd] at h; cases h; exact dy2_same (r := doAIndex len size) (fun cf h k => by simp only [doAIndex, oE_eq, oV_cQ]) hx hy
theorem qIndex_same {a : TypeId} (hx : Sees t e s g x) (hy : Sees t e s g' x') (h : qIndex P a g g' = some r) : SameR t e s r (compIndex P a x x') := by
  unfold qIndex at h; unfold compIndex
  simp only [tyQ_eq] at h
  split at h
  · cases h
    simp only [*]
    exact dy2_same (r := doSIndex) (fun cf h k => by simp only [doSIndex, oE_eq, oV_cQ]) hx hy
  · simp only [*]; exact qIndexA_same hx hy h
  · cases h
theorem qLen_same {a : TypeId} (hx : Sees t e s g x) (h : qLen P a g = some r) : SameR t e s r (compLen P a x) := by
  unfold qLen at h; unfold compLen
  simp only [tyQ_eq] at h
  split at h
  · cases h; simp only [*]; exact ln_same hx
  · cases h; simp only [*]; exact ls_same hx
  · cases h
theorem qAppend_same {a b : TypeId} (hx : Sees t e s g x) (hy : Sees t e s g' x') (h : qAppend P a b g g' = some r) : SameR t e s r (compAppend P a b x x') := by
  unfold qAppend at h; unfold compAppend
  simp only [tyQ_eq] at h
  repeat' split at h
  all_goals first | cases h | skip
  simp only [*]
  exact dy2_same (r := doAppend _ _) (fun cf h k => by simp only [doAppend, oK_eq, oV_cQ]) hx hy
variable {rs : Operand → W Gq}
theorem qFn1_same {f : FuncId} {args : List Operand} (hr : ∀ x, Sees t e s (rs x) (compO x)) (h : qFn1 P f (args.map rs) = some r) : SameR t e s r (compFn1 P f (args.map compO)) := by
  unfold qFn1 at h; unfold compFn1
  simp only [lg_eq] at h
  repeat' split at h
  all_goals first | cases h | skip
  simp only [*]
  intro cf h k
  unfold callQ; rw [W.on_out]
  show (arQ (args.map rs)).out t e _ = evalsK (args.map compO) s _
  rw [arQ_eq hr]
theorem qCall_same {c : Call} (hr : ∀ x, Sees t e s (rs x) (compO x)) (h : qCall P rs c = some r) : SameR t e s r (compCall P c) := by
  unfold qCall at h
  split at h
  · rename_i b args tys
    show SameR t e s r (compBuiltin P b (args.toList.map compO) tys.toList)
    generalize args.toList = l at h ⊢
    generalize tys.toList = ts at h ⊢
    unfold qBuiltin at h
    split at h
    · rename_i heq
      match l, heq with
      | [y], heq => cases heq; exact qLen_same (hr y) h
    · rename_i heq
      match l, heq with
      | [y, z], heq => cases heq; exact qAppend_same (hr y) (hr z) h
    · cases h
  · exact qFn1_same hr h
  · cases h
theorem qAlloc_same {el : Nat} {ty : Option Ty} (h : qAlloc el ty = some r) : SameR t e s r (compAlloc el ty) := by
  rcases ty with _ | ⟨size, b, d, z⟩
  · cases h
  · simp only [qAlloc, compAlloc] at h ⊢
    cases hd : (Nat.beq z.length size && Nat.ble 1 size) with
    | true => rw [hd] at h; cases h; exact fun cf h k => rfl
    | false => rw [hd] at h; cases h
theorem qBuild_same (hr : ∀ x, Sees t e s (rs x) (compO x)) {ty : Option Ty} {parts : List (Nat × Operand)} (h : qBuild P ty rs parts = some r) : SameR t e s r (compBuild P ty parts) := by
  unfold qBuild at h; unfold compBuild
  split at h
  · split at h
    · rename_i h1 h2
      cases h
      simp only [h1, h2]
      exact dyL_same hr (r := doBuild _) (compParts_o h1) fun cf h k => by simp only [doBuild, fill_zip]
    · cases h
  · cases h
theorem qBuildSlice_same (hr : ∀ x, Sees t e s (rs x) (compO x)) {ty : Option Ty} {len : Nat} {parts : List (Nat × Operand)} (h : qBuildSlice P ty len rs parts = some r) : SameR t e s r (compBuildSlice P ty len parts) := by
  unfold qBuildSlice at h; unfold compBuildSlice
  simp only [tyQ_eq] at h
  repeat' split at h
  all_goals first | cases h | skip
  simp only [*]
  exact dyL_same hr (r := doBuildSlice _ _ _) (compPartsA_o _ _) fun cf h k => by simp only [doBuildSlice, fill_zip]
theorem qOp_same (hr : ∀ x, Sees t e s (rs x) (compO x)) {op : Op} (h : qOp P rs op = some r) : SameR t e s r (compOp P op) := by
  cases op <;> first
    | (cases h; done)
    | (cases h; exact mv_same (hr _))
    | (cases h; exact ex_same _ (hr _))
    | (cases h; exact nc_same (hr _))
    | exact qLoad_same (hr _) (by rw [← tyQ_eq]; exact h)
    | exact qStore_same (hr _) (hr _) (by rw [← tyQ_eq]; exact h)
    | exact qFieldAddr_same (hr _) (by rw [← tyQ_eq]; exact h)
    | exact qField_same (hr _) (by rw [← tyQ_eq]; exact h)
    | exact qIndexAddr_same (hr _) (hr _) (by rw [← tyQ_eq]; exact h)
    | exact qBin_same (hr _) (hr _) h
    | exact qUn_same (hr _) h
    | exact qConv_same (hr _) h
    | exact qIndex_same (hr _) (hr _) h
    | exact qCall_same hr h
    | (cases h; exact dy3_same (r := doPick) (fun cf h k => by simp only [doPick, oE_eq, oK_eq, oV_cQ]) (hr _) (hr _) (hr _))
    | (cases h; exact dy1_same (r := doBox _) (fun cf h k => by simp only [doBox, oK_eq, oV_cQ]) (hr _))
    | exact qAlloc_same (by rw [← tyQ_eq]; exact h)
    | exact qBuild_same hr (by rw [← tyQ_eq]; exact h)
    | exact qBuildSlice_same hr (by rw [← tyQ_eq]; exact h)
end
end Go.Ev
