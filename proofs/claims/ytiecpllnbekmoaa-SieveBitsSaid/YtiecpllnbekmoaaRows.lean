/-
  No cell of these rows narrows 'for every input' (looked for: loops, veiled, ifaces, maps, wideKeys, modest, calm, conditions, laid).
  DERIVED. THE GIVEN ROWS OF THIS SEAT. 9 by the template 'for every input the law returns true; each argument reads behind the call as it read before'; 0 by the template 'total and deterministic' (their statements: YtiecpllnbekmoaaTotals.lean).
  GIVEN WITH THE SEED: the statements are not yours to turn. If you find one false, say at which input.
  Laid BY PROGRAM, IN A SANDBOX (cutbox-rows.mjs): the forced cells as the released guide's own fill.sh prints them over the translation caff50a88afb10eb… (all of the seat's roots in one cut). By AI agents, Wed Nov 11 2026. No macro, syntax, notation, axiom, sorry.
-/
import Derived.Test.YtiecpllnbekmoaaChecked
import GoSem.Claim
import GoSem.ClaimJoined
import GoSem.ClaimMapViews
import Derived.JoinedTies
import Derived.KernelRfl
namespace Go.Proofs.Ytiecpllnbekmoaa
/- THE CELL 'sum', in the pinned program and in every row, IS THE sha256 OF THE DUMP (.gsa) THAT YtiecpllnbekmoaaProg.lean LOADS. Nothing in Lean hashes anything: it is a label: what it is worth is what the hold of that sum in a sandbox is worth. -/
noncomputable def Try.pinned : Pinned := { name := "ytiecpllnbekmoaa", sum := "caff50a88afb10eb7b9d08910a6311e38de8352849603a04d448a79b53320a1f", checked := Try.checked }
namespace Rows
def none {H : Type} : Left H := { results := [], args := [] }

/-- 'ravelinlaw5.ShelfPlays': WHATEVER THE INPUT: true; the input reads as it did. -/
def shelfPlaysSpec : ChangeSpec := { name := "shelfPlays", fn := fun _ => fun
  | [d1, d2] => { results := [.lit (.bool true)], args := [d1, d2] }
  | _ => none }
def shelfPlaysRow : OpenClaim := { program := "ytiecpllnbekmoaa", sum := "caff50a88afb10eb7b9d08910a6311e38de8352849603a04d448a79b53320a1f", func := "ravelin/ravelinlaw5.ShelfPlays", spec := "shelfPlays", unfollowed := true, recurses := true, apart := false }
def ShelfPlaysSaid : Prop := shelfPlaysRow.holds Try.pinned (OpenSpec.ofChange shelfPlaysSpec)

/-- ITS FALSE NEIGHBOUR: 'it returns false'. Refute it at one input. -/
def shelfPlaysWrong : ChangeSpec := { name := "shelfPlays", fn := fun _ => fun
  | [d1, d2] => { results := [.lit (.bool false)], args := [d1, d2] }
  | _ => none }
def ShelfPlaysWrongFalsely : Prop := shelfPlaysRow.holds Try.pinned (OpenSpec.ofChange shelfPlaysWrong)

/-- 'ravelinlaw5.ShelfKeeps': WHATEVER THE INPUT: true; the input reads as it did. -/
def shelfKeepsSpec : ChangeSpec := { name := "shelfKeeps", fn := fun _ => fun
  | [d1, d2, d3, d4] => { results := [.lit (.bool true)], args := [d1, d2, d3, d4] }
  | _ => none }
def shelfKeepsRow : OpenClaim := { program := "ytiecpllnbekmoaa", sum := "caff50a88afb10eb7b9d08910a6311e38de8352849603a04d448a79b53320a1f", func := "ravelin/ravelinlaw5.ShelfKeeps", spec := "shelfKeeps", unfollowed := true, recurses := true, apart := false }
def ShelfKeepsSaid : Prop := shelfKeepsRow.holds Try.pinned (OpenSpec.ofChange shelfKeepsSpec)

/-- ITS FALSE NEIGHBOUR: 'it returns false'. Refute it at one input. -/
def shelfKeepsWrong : ChangeSpec := { name := "shelfKeeps", fn := fun _ => fun
  | [d1, d2, d3, d4] => { results := [.lit (.bool false)], args := [d1, d2, d3, d4] }
  | _ => none }
def ShelfKeepsWrongFalsely : Prop := shelfKeepsRow.holds Try.pinned (OpenSpec.ofChange shelfKeepsWrong)

/-- 'ravelinlaw5.ShelfFull': WHATEVER THE INPUT: true; the input reads as it did. -/
def shelfFullSpec : ChangeSpec := { name := "shelfFull", fn := fun _ => fun
  | [d1, d2, d3] => { results := [.lit (.bool true)], args := [d1, d2, d3] }
  | _ => none }
def shelfFullRow : OpenClaim := { program := "ytiecpllnbekmoaa", sum := "caff50a88afb10eb7b9d08910a6311e38de8352849603a04d448a79b53320a1f", func := "ravelin/ravelinlaw5.ShelfFull", spec := "shelfFull", unfollowed := true, recurses := true, apart := false }
def ShelfFullSaid : Prop := shelfFullRow.holds Try.pinned (OpenSpec.ofChange shelfFullSpec)

/-- ITS FALSE NEIGHBOUR: 'it returns false'. Refute it at one input. -/
def shelfFullWrong : ChangeSpec := { name := "shelfFull", fn := fun _ => fun
  | [d1, d2, d3] => { results := [.lit (.bool false)], args := [d1, d2, d3] }
  | _ => none }
def ShelfFullWrongFalsely : Prop := shelfFullRow.holds Try.pinned (OpenSpec.ofChange shelfFullWrong)

/-- 'ravelinlaw5.ShelfSwaps': WHATEVER THE INPUT: true; the input reads as it did. -/
def shelfSwapsSpec : ChangeSpec := { name := "shelfSwaps", fn := fun _ => fun
  | [d1, d2, d3, d4] => { results := [.lit (.bool true)], args := [d1, d2, d3, d4] }
  | _ => none }
def shelfSwapsRow : OpenClaim := { program := "ytiecpllnbekmoaa", sum := "caff50a88afb10eb7b9d08910a6311e38de8352849603a04d448a79b53320a1f", func := "ravelin/ravelinlaw5.ShelfSwaps", spec := "shelfSwaps", unfollowed := true, recurses := true, apart := false }
def ShelfSwapsSaid : Prop := shelfSwapsRow.holds Try.pinned (OpenSpec.ofChange shelfSwapsSpec)

/-- ITS FALSE NEIGHBOUR: 'it returns false'. Refute it at one input. -/
def shelfSwapsWrong : ChangeSpec := { name := "shelfSwaps", fn := fun _ => fun
  | [d1, d2, d3, d4] => { results := [.lit (.bool false)], args := [d1, d2, d3, d4] }
  | _ => none }
def ShelfSwapsWrongFalsely : Prop := shelfSwapsRow.holds Try.pinned (OpenSpec.ofChange shelfSwapsWrong)

/-- 'ravelinlaw5.ShelfDrops': WHATEVER THE INPUT: true; the input reads as it did. -/
def shelfDropsSpec : ChangeSpec := { name := "shelfDrops", fn := fun _ => fun
  | [d1, d2, d3] => { results := [.lit (.bool true)], args := [d1, d2, d3] }
  | _ => none }
def shelfDropsRow : OpenClaim := { program := "ytiecpllnbekmoaa", sum := "caff50a88afb10eb7b9d08910a6311e38de8352849603a04d448a79b53320a1f", func := "ravelin/ravelinlaw5.ShelfDrops", spec := "shelfDrops", unfollowed := true, recurses := true, apart := false }
def ShelfDropsSaid : Prop := shelfDropsRow.holds Try.pinned (OpenSpec.ofChange shelfDropsSpec)

/-- ITS FALSE NEIGHBOUR: 'it returns false'. Refute it at one input. -/
def shelfDropsWrong : ChangeSpec := { name := "shelfDrops", fn := fun _ => fun
  | [d1, d2, d3] => { results := [.lit (.bool false)], args := [d1, d2, d3] }
  | _ => none }
def ShelfDropsWrongFalsely : Prop := shelfDropsRow.holds Try.pinned (OpenSpec.ofChange shelfDropsWrong)

/-- 'ravelinlaw7.SieveTells': WHATEVER THE INPUT: true; the input reads as it did. -/
def sieveTellsSpec : ChangeSpec := { name := "sieveTells", fn := fun _ => fun
  | [d1, d2, d3] => { results := [.lit (.bool true)], args := [d1, d2, d3] }
  | _ => none }
def sieveTellsRow : OpenClaim := { program := "ytiecpllnbekmoaa", sum := "caff50a88afb10eb7b9d08910a6311e38de8352849603a04d448a79b53320a1f", func := "ravelin/ravelinlaw7.SieveTells", spec := "sieveTells", apart := false }
def SieveTellsSaid : Prop := sieveTellsRow.holds Try.pinned (OpenSpec.ofChange sieveTellsSpec)

/-- ITS FALSE NEIGHBOUR: 'it returns false'. Refute it at one input. -/
def sieveTellsWrong : ChangeSpec := { name := "sieveTells", fn := fun _ => fun
  | [d1, d2, d3] => { results := [.lit (.bool false)], args := [d1, d2, d3] }
  | _ => none }
def SieveTellsWrongFalsely : Prop := sieveTellsRow.holds Try.pinned (OpenSpec.ofChange sieveTellsWrong)

/-- 'ravelinlaw7.SieveHas': WHATEVER THE INPUT: true; the input reads as it did. -/
def sieveHasSpec : ChangeSpec := { name := "sieveHas", fn := fun _ => fun
  | [d1, d2] => { results := [.lit (.bool true)], args := [d1, d2] }
  | _ => none }
def sieveHasRow : OpenClaim := { program := "ytiecpllnbekmoaa", sum := "caff50a88afb10eb7b9d08910a6311e38de8352849603a04d448a79b53320a1f", func := "ravelin/ravelinlaw7.SieveHas", spec := "sieveHas", apart := false }
def SieveHasSaid : Prop := sieveHasRow.holds Try.pinned (OpenSpec.ofChange sieveHasSpec)

/-- ITS FALSE NEIGHBOUR: 'it returns false'. Refute it at one input. -/
def sieveHasWrong : ChangeSpec := { name := "sieveHas", fn := fun _ => fun
  | [d1, d2] => { results := [.lit (.bool false)], args := [d1, d2] }
  | _ => none }
def SieveHasWrongFalsely : Prop := sieveHasRow.holds Try.pinned (OpenSpec.ofChange sieveHasWrong)

/-- 'ravelinlaw7.SieveFew': WHATEVER THE INPUT: true; the input reads as it did. -/
def sieveFewSpec : ChangeSpec := { name := "sieveFew", fn := fun _ => fun
  | [d1, d2] => { results := [.lit (.bool true)], args := [d1, d2] }
  | _ => none }
def sieveFewRow : OpenClaim := { program := "ytiecpllnbekmoaa", sum := "caff50a88afb10eb7b9d08910a6311e38de8352849603a04d448a79b53320a1f", func := "ravelin/ravelinlaw7.SieveFew", spec := "sieveFew", apart := false }
def SieveFewSaid : Prop := sieveFewRow.holds Try.pinned (OpenSpec.ofChange sieveFewSpec)

/-- ITS FALSE NEIGHBOUR: 'it returns false'. Refute it at one input. -/
def sieveFewWrong : ChangeSpec := { name := "sieveFew", fn := fun _ => fun
  | [d1, d2] => { results := [.lit (.bool false)], args := [d1, d2] }
  | _ => none }
def SieveFewWrongFalsely : Prop := sieveFewRow.holds Try.pinned (OpenSpec.ofChange sieveFewWrong)

/-- 'ravelinlaw7.SieveBits': WHATEVER THE INPUT: true; the input reads as it did. -/
def sieveBitsSpec : ChangeSpec := { name := "sieveBits", fn := fun _ => fun
  | [d1, d2] => { results := [.lit (.bool true)], args := [d1, d2] }
  | _ => none }
def sieveBitsRow : OpenClaim := { program := "ytiecpllnbekmoaa", sum := "caff50a88afb10eb7b9d08910a6311e38de8352849603a04d448a79b53320a1f", func := "ravelin/ravelinlaw7.SieveBits", spec := "sieveBits", apart := false }
def SieveBitsSaid : Prop := sieveBitsRow.holds Try.pinned (OpenSpec.ofChange sieveBitsSpec)

/-- ITS FALSE NEIGHBOUR: 'it returns false'. Refute it at one input. -/
def sieveBitsWrong : ChangeSpec := { name := "sieveBits", fn := fun _ => fun
  | [d1, d2] => { results := [.lit (.bool false)], args := [d1, d2] }
  | _ => none }
def SieveBitsWrongFalsely : Prop := sieveBitsRow.holds Try.pinned (OpenSpec.ofChange sieveBitsWrong)

/- THE SECOND FORM. 'bulk': how many values and letters a reading holds, each counted each time it is reached (what is shared counts as often as it is met; a slice's spare places count too). A statement '..UptoSaid' is the law's where the arguments, and the package variables that the reading takes, are together of bulk at most 1048576: NARROWER than '..Said'. Prove '..Said' where nothing that the law and all that it calls make is longer than what came in: it says more and counts as full. Else prove '..UptoSaid'. A law counts once. -/
mutual
def uptoBulk {H : Type} : DataW H → Nat
  | .lit (.string bytes) => bytes.length + 1
  | .lit _ => 1
  | .nil => 1
  | .ptr d => uptoBulk d + 1
  | .slice elems spare => uptoBulkAll elems + uptoBulkAll spare + 1
  | .agg parts => uptoBulkAll parts + 1
  | .iface _ d => uptoBulk d + 1
  | .map entries => uptoBulkEntries entries + 1
  | .held _ => 1
def uptoBulkAll {H : Type} : List (DataW H) → Nat
  | [] => 0
  | d :: r => uptoBulk d + uptoBulkAll r
def uptoBulkEntries {H : Type} : List (Lit × DataW H) → Nat
  | [] => 0
  | x :: r => uptoBulkEntry x + uptoBulkEntries r
def uptoBulkEntry {H : Type} : Lit × DataW H → Nat
  | (.string bytes, d) => bytes.length + uptoBulk d + 1
  | (_, d) => uptoBulk d + 1
 end
def uptoSmall : (H : Type) → List (DataW H) → Bool := fun _ ds => decide (uptoBulkAll ds ≤ 1048576)
def OpenSpec.upto (s : _root_.Go.ChangeSpec) : _root_.Go.OpenSpec := { _root_.Go.OpenSpec.ofChange s with cond := some uptoSmall }

/-- 'ravelinlaw5.ShelfPlays', WHERE WHAT IT READS IS OF BULK AT MOST 1048576: true; the input reads as it did. -/
def shelfPlaysUptoRow : OpenClaim := { program := "ytiecpllnbekmoaa", sum := "caff50a88afb10eb7b9d08910a6311e38de8352849603a04d448a79b53320a1f", func := "ravelin/ravelinlaw5.ShelfPlays", spec := "shelfPlays", unfollowed := true, recurses := true, apart := false, narrowed := true }
def ShelfPlaysUptoSaid : Prop := shelfPlaysUptoRow.holds Try.pinned (OpenSpec.upto shelfPlaysSpec)

/-- 'ravelinlaw5.ShelfKeeps', WHERE WHAT IT READS IS OF BULK AT MOST 1048576: true; the input reads as it did. -/
def shelfKeepsUptoRow : OpenClaim := { program := "ytiecpllnbekmoaa", sum := "caff50a88afb10eb7b9d08910a6311e38de8352849603a04d448a79b53320a1f", func := "ravelin/ravelinlaw5.ShelfKeeps", spec := "shelfKeeps", unfollowed := true, recurses := true, apart := false, narrowed := true }
def ShelfKeepsUptoSaid : Prop := shelfKeepsUptoRow.holds Try.pinned (OpenSpec.upto shelfKeepsSpec)

/-- 'ravelinlaw5.ShelfFull', WHERE WHAT IT READS IS OF BULK AT MOST 1048576: true; the input reads as it did. -/
def shelfFullUptoRow : OpenClaim := { program := "ytiecpllnbekmoaa", sum := "caff50a88afb10eb7b9d08910a6311e38de8352849603a04d448a79b53320a1f", func := "ravelin/ravelinlaw5.ShelfFull", spec := "shelfFull", unfollowed := true, recurses := true, apart := false, narrowed := true }
def ShelfFullUptoSaid : Prop := shelfFullUptoRow.holds Try.pinned (OpenSpec.upto shelfFullSpec)

/-- 'ravelinlaw5.ShelfSwaps', WHERE WHAT IT READS IS OF BULK AT MOST 1048576: true; the input reads as it did. -/
def shelfSwapsUptoRow : OpenClaim := { program := "ytiecpllnbekmoaa", sum := "caff50a88afb10eb7b9d08910a6311e38de8352849603a04d448a79b53320a1f", func := "ravelin/ravelinlaw5.ShelfSwaps", spec := "shelfSwaps", unfollowed := true, recurses := true, apart := false, narrowed := true }
def ShelfSwapsUptoSaid : Prop := shelfSwapsUptoRow.holds Try.pinned (OpenSpec.upto shelfSwapsSpec)

/-- 'ravelinlaw5.ShelfDrops', WHERE WHAT IT READS IS OF BULK AT MOST 1048576: true; the input reads as it did. -/
def shelfDropsUptoRow : OpenClaim := { program := "ytiecpllnbekmoaa", sum := "caff50a88afb10eb7b9d08910a6311e38de8352849603a04d448a79b53320a1f", func := "ravelin/ravelinlaw5.ShelfDrops", spec := "shelfDrops", unfollowed := true, recurses := true, apart := false, narrowed := true }
def ShelfDropsUptoSaid : Prop := shelfDropsUptoRow.holds Try.pinned (OpenSpec.upto shelfDropsSpec)

/-- 'ravelinlaw7.SieveTells', WHERE WHAT IT READS IS OF BULK AT MOST 1048576: true; the input reads as it did. -/
def sieveTellsUptoRow : OpenClaim := { program := "ytiecpllnbekmoaa", sum := "caff50a88afb10eb7b9d08910a6311e38de8352849603a04d448a79b53320a1f", func := "ravelin/ravelinlaw7.SieveTells", spec := "sieveTells", apart := false, narrowed := true }
def SieveTellsUptoSaid : Prop := sieveTellsUptoRow.holds Try.pinned (OpenSpec.upto sieveTellsSpec)

/-- 'ravelinlaw7.SieveHas', WHERE WHAT IT READS IS OF BULK AT MOST 1048576: true; the input reads as it did. -/
def sieveHasUptoRow : OpenClaim := { program := "ytiecpllnbekmoaa", sum := "caff50a88afb10eb7b9d08910a6311e38de8352849603a04d448a79b53320a1f", func := "ravelin/ravelinlaw7.SieveHas", spec := "sieveHas", apart := false, narrowed := true }
def SieveHasUptoSaid : Prop := sieveHasUptoRow.holds Try.pinned (OpenSpec.upto sieveHasSpec)

/-- 'ravelinlaw7.SieveFew', WHERE WHAT IT READS IS OF BULK AT MOST 1048576: true; the input reads as it did. -/
def sieveFewUptoRow : OpenClaim := { program := "ytiecpllnbekmoaa", sum := "caff50a88afb10eb7b9d08910a6311e38de8352849603a04d448a79b53320a1f", func := "ravelin/ravelinlaw7.SieveFew", spec := "sieveFew", apart := false, narrowed := true }
def SieveFewUptoSaid : Prop := sieveFewUptoRow.holds Try.pinned (OpenSpec.upto sieveFewSpec)

/-- 'ravelinlaw7.SieveBits', WHERE WHAT IT READS IS OF BULK AT MOST 1048576: true; the input reads as it did. -/
def sieveBitsUptoRow : OpenClaim := { program := "ytiecpllnbekmoaa", sum := "caff50a88afb10eb7b9d08910a6311e38de8352849603a04d448a79b53320a1f", func := "ravelin/ravelinlaw7.SieveBits", spec := "sieveBits", apart := false, narrowed := true }
def SieveBitsUptoSaid : Prop := sieveBitsUptoRow.holds Try.pinned (OpenSpec.upto sieveBitsSpec)

end Rows
end Go.Proofs.Ytiecpllnbekmoaa
