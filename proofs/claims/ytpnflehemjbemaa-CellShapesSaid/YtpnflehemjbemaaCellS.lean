/- Calls of the cells' functions, by what they compute; arguments that are numbers and texts. No condition. -/
import Derived.Test.YtpnflehemjbemaaCell2
import Derived.Test.YtpnflehemjbemaaCell3
import Derived.Test.YtpnflehemjbemaaCell4
import Derived.Test.YtpnflehemjbemaaKnravelinlaw3
import Derived.Test.YtpnflehemjbemaaEvP
import Derived.Test.YtpnflehemjbemaaArgS
import Derived.Test.YtpnflehemjbemaaChecked
set_option maxRecDepth 100000
set_option maxHeartbeats 8000000
set_option linter.all false
namespace Go.Proofs.Ytpnflehemjbemaa
open Go Go.Ev

/-- what each call makes -/
def SC : Ev.Spec := fun f vs hh y h' => match f with
  | 43 => y = .b true ∧ h' = hh
  | 44 => ∀ p, vs = [sv p] → y = tri (takeN p) ∧ h' = hh
  | 45 => ∀ p, vs = [sv p] → y = tri (takeN p) ∧ h' = hh
  | 46 => ∀ p, vs = [sv p] → y = triT (takeT p) ∧ h' = hh
  | 47 => ∀ p, vs = [sv p] → y = triT (takeT p) ∧ h' = hh
  | 48 => ∀ p, vs = [.i .i64 p] → y = sv (numB p.toNat) ∧ Stay nowhere hh h'
  | 49 => ∀ p, vs = [.i .i64 p] → y = sv (numB p.toNat) ∧ Stay nowhere hh h'
  | 50 => ∀ p, vs = [sv p] → y = sv (textB p) ∧ Stay nowhere hh h'
  | 51 => ∀ p, vs = [sv p] → y = sv (textB p) ∧ Stay nowhere hh h'
  | 52 => ∀ p q, vs = [sv p, sv q] → y = .b (Op.bytesLess p q) ∧ h' = hh
  | _ => True
section
variable {h : H}
theorem sc_known : FnOk Try.prog 43 [] h (SC 43 [] h) := FnOk.of_pure ravelinlaw3.known_pure h
theorem sc_takeNum {l : List UInt8} (hl : l.length ≤ 1000000) : FnOk Try.prog 44 [sv l] h (SC 44 [sv l] h) := (takeNum_ok hl).mono fun y h' hk p' e => by have := sv_inj (List.cons.inj e).1; subst this; exact hk
theorem sc_rtakeNum {l : List UInt8} (hl : l.length ≤ 1000000) : FnOk Try.prog 45 [sv l] h (SC 45 [sv l] h) := (rtakeNum_ok hl).mono fun y h' hk p' e => by have := sv_inj (List.cons.inj e).1; subst this; exact hk
theorem sc_takeText {l : List UInt8} (hl : l.length ≤ 1000000) : FnOk Try.prog 46 [sv l] h (SC 46 [sv l] h) := (takeText_ok hl).mono fun y h' hk p' e => by have := sv_inj (List.cons.inj e).1; subst this; exact hk
theorem sc_rtakeText {l : List UInt8} (hl : l.length ≤ 1000000) : FnOk Try.prog 47 [sv l] h (SC 47 [sv l] h) := (rtakeText_ok hl).mono fun y h' hk p' e => by have := sv_inj (List.cons.inj e).1; subst this; exact hk
theorem sc_num {n : Int} (hn : n ≤ 9223372036854775807) (hf : B.val h.floor ≤ B.val h.next) : FnOk Try.prog 48 [.i .i64 n] h (SC 48 [.i .i64 n] h) := (num_ok hn hf).mono fun y h' hk p' e => by cases e; exact hk
theorem sc_rnum {n : Int} (hn : n ≤ 9223372036854775807) (hf : B.val h.floor ≤ B.val h.next) : FnOk Try.prog 49 [.i .i64 n] h (SC 49 [.i .i64 n] h) := (rnum_ok hn hf).mono fun y h' hk p' e => by cases e; exact hk
theorem sc_text {l : List UInt8} (hl : l.length ≤ 1000000) (hf : B.val h.floor ≤ B.val h.next) : FnOk Try.prog 50 [sv l] h (SC 50 [sv l] h) := (text_ok hl hf).mono fun y h' hk p' e => by have := sv_inj (List.cons.inj e).1; subst this; exact hk
theorem sc_rtext {l : List UInt8} (hl : l.length ≤ 1000000) (hf : B.val h.floor ≤ B.val h.next) : FnOk Try.prog 51 [sv l] h (SC 51 [sv l] h) := (rtext_ok hl hf).mono fun y h' hk p' e => by have := sv_inj (List.cons.inj e).1; subst this; exact hk
theorem sc_less {a b : List UInt8} : FnOk Try.prog 52 [sv a, sv b] h (SC 52 [sv a, sv b] h) := less_ok.mono fun y h' hk p q e => by
  have h1 := sv_inj (List.cons.inj e).1
  have h2 := sv_inj (List.cons.inj (List.cons.inj e).2).1
  subst h1; subst h2; exact hk
end

end Go.Proofs.Ytpnflehemjbemaa
