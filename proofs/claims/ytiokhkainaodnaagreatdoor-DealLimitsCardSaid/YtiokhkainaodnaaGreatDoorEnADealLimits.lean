/- Runs of the law DealLimits by their numbers. No condition. -/
import Derived.Test.YtiokhkainaodnaaGreatDoorPkDL6
namespace Go.Proofs.YtiokhkainaodnaaGreatDoor.dealLimits
open Go Go.Ev
noncomputable def uV (n : Nat) : V := Nat.rec .u (fun m _ => .b (Nat.beq m 1)) n
noncomputable def A (n : Nat) : List V := [.r .u8 3 (Nat.mod (Nat.div n 1) 3) 255, .r .u8 16 (Nat.mod (Nat.div n 3) 16) 255, .r .u8 3 (Nat.mod (Nat.div n 48) 3) 255]
noncomputable def rnR (r : List V → Bool) (n : Nat) : Nat → Bool := Nat.rec (fun _ => true) (fun _ ih s => Bool.rec false (fN (Nat.succ s) ih) (r (A s))) n
theorem rnR_get {r : List V → Bool} : ∀ {n s : Nat}, rnR r n s = true → ∀ k, k < n → r (A (s + k)) = true
  | 0, _, _, k, hk => absurd hk (Nat.not_lt_zero k)
  | n + 1, s, h, k, hk => by
    have e : rnR r (n + 1) s = Bool.rec (motive := fun _ => Bool) false (fN (Nat.succ s) (rnR r n)) (r (A s)) := rfl
    rw [e] at h
    cases hr : r (A s) with
    | false => rw [hr] at h; exact Bool.noConfusion h
    | true =>
      rw [hr] at h
      have h2 : rnR r n (s + 1) = true := by have := h; rwa [show (Bool.rec (motive := fun _ => Bool) false (fN (Nat.succ s) (rnR r n)) true) = fN (Nat.succ s) (rnR r n) from rfl, fN_eq] at this
      cases k with
      | zero => exact hr
      | succ k => have := rnR_get h2 k (by omega); rwa [show s + 1 + k = s + (k + 1) by omega] at this
end Go.Proofs.YtiokhkainaodnaaGreatDoor.dealLimits
