/-
  A frame of which only some slots matter from here on.
-/
import Derived.Test.YtiecpllnbekmoaaEvX
set_option linter.all false
namespace Go.Ev
open Go
theorem Ok.forget {P : Program} {nt : Nat} {cc : CC} {t : F} {h : H} {K : X → F → H → Prop} (Q : F → Prop) (hq : Q t) (k : ∀ t, Q t → Ok P nt cc t h K) : Ok P nt cc t h K := k t hq
theorem Ops.forget {P : Program} {S : Spec} {l : List CO} {t : F} {h : H} {K : F → H → Prop} (Q : F → Prop) (hq : Q t) (k : ∀ t, Q t → Ops P S l t h K) : Ops P S l t h K := k t hq
end Go.Ev
