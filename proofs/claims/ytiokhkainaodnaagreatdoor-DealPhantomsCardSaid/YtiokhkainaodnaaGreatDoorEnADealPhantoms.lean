/- Runs of the law DealPhantoms by their numbers. No condition. -/
import Derived.Test.YtiokhkainaodnaaGreatDoorPkDP6
namespace Go.Proofs.YtiokhkainaodnaaGreatDoor.dealPhantoms
open Go Go.Ev
noncomputable abbrev RR : List V → Bool := runQ hs tbE Tryz.prog 3000 8
noncomputable def uV (n : Nat) : V := Nat.rec .u (fun m _ => .b (Nat.beq m 1)) n
noncomputable def A (n : Nat) : List V := [.r .u8 10 (Nat.mod (Nat.div n 1) 10) 255, .r .u8 10 (Nat.mod (Nat.div n 10) 10) 255, .r .u8 10 (Nat.mod (Nat.div n 100) 10) 255, .b (Nat.beq (Nat.mod (Nat.div n 1000) 2) 1)]
noncomputable def rnR (r : List V → Bool) (n : Nat) : Nat → Bool := Nat.rec (fun _ => true) (fun _ ih s => Bool.rec false (fN (Nat.succ s) ih) (r (A s))) n
theorem rnR_get {r : List V → Bool} : ∀ {n s : Nat}, rnR r n s = true → ∀ k, k < n → r (A (s + k)) = true
  | 0, _, _, k, hk => absurd hk (Nat.not_lt_zero k)
  | n + 1, s, h, k, hk => by
    have e : rnR r (n + 1) s = Bool.rec (motive := fun _ => Bool) false (fN (Nat.succ s) (rnR r n)) (r (A s)) := rfl
    rw [e] at h
    cases hr : r (A s) with
    | false => rw [hr] at h; exact Bool.noConfusion h
    | true =>
      rw [hr] at h
      have h2 : rnR r n (s + 1) = true := by have := h; rwa [show (Bool.rec (motive := fun _ => Bool) false (fN (Nat.succ s) (rnR r n)) true) = fN (Nat.succ s) (rnR r n) from rfl, fN_eq] at this
      cases k with
      | zero => exact hr
      | succ k => have := rnR_get h2 k (by omega); rwa [show s + 1 + k = s + (k + 1) by omega] at this
theorem G {s : Nat} (h : rnR RR 20 s = true) : ∀ k, k < 20 → RR (A (s + k)) = true := rnR_get h
end Go.Proofs.YtiokhkainaodnaaGreatDoor.dealPhantoms
