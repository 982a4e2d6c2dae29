/-
  No cell of these rows narrows 'for every input' (looked for: loops, veiled, ifaces, maps, wideKeys, modest, calm, conditions, laid).
  DERIVED. THE GIVEN ROWS OF THIS SEAT. 10 by the template 'for every input the law returns true; each argument reads behind the call as it read before'; 0 by the template 'total and deterministic' (their statements: YtlnigbjbnpkdhaaTotals.lean).
  GIVEN WITH THE SEED: the statements are not yours to turn. If you find one false, say at which input.
  Laid BY PROGRAM, IN A SANDBOX (cutbox-rows.mjs): the forced cells as the released guide's own fill.sh prints them over the translation 61a9b1a4a73f826c… (all of the seat's roots in one cut). By AI agents, Wed Nov 11 2026. No macro, syntax, notation, axiom, sorry.
-/
import Derived.Test.YtlnigbjbnpkdhaaChecked
import GoSem.Claim
import GoSem.ClaimJoined
import GoSem.ClaimMapViews
import Derived.JoinedTies
import Derived.KernelRfl
namespace Go.Proofs.Ytlnigbjbnpkdhaa
/- THE CELL 'sum', in the pinned program and in every row, IS THE sha256 OF THE DUMP (.gsa) THAT YtlnigbjbnpkdhaaProg.lean LOADS. Nothing in Lean hashes anything: it is a label: what it is worth is what the hold of that sum in a sandbox is worth. -/
noncomputable def Try.pinned : Pinned := { name := "ytlnigbjbnpkdhaa", sum := "61a9b1a4a73f826c3298dc5f179675ffe3d2b94aa8cf64a5240310fce59776f8", checked := Try.checked }
namespace Rows
def none {H : Type} : Left H := { results := [], args := [] }

/-- 'ravelinlaw1.LatticeTells': WHATEVER THE INPUT: true; the input reads as it did. -/
def latticeTellsSpec : ChangeSpec := { name := "latticeTells", fn := fun _ => fun
  | [d1, d2, d3, d4] => { results := [.lit (.bool true)], args := [d1, d2, d3, d4] }
  | _ => none }
def latticeTellsRow : OpenClaim := { program := "ytlnigbjbnpkdhaa", sum := "61a9b1a4a73f826c3298dc5f179675ffe3d2b94aa8cf64a5240310fce59776f8", func := "ravelin/ravelinlaw1.LatticeTells", spec := "latticeTells", apart := false }
def LatticeTellsSaid : Prop := latticeTellsRow.holds Try.pinned (OpenSpec.ofChange latticeTellsSpec)

/-- ITS FALSE NEIGHBOUR: 'it returns false'. Refute it at one input. -/
def latticeTellsWrong : ChangeSpec := { name := "latticeTells", fn := fun _ => fun
  | [d1, d2, d3, d4] => { results := [.lit (.bool false)], args := [d1, d2, d3, d4] }
  | _ => none }
def LatticeTellsWrongFalsely : Prop := latticeTellsRow.holds Try.pinned (OpenSpec.ofChange latticeTellsWrong)

/-- 'ravelinlaw1.LatticeOrders': WHATEVER THE INPUT: true; the input reads as it did. -/
def latticeOrdersSpec : ChangeSpec := { name := "latticeOrders", fn := fun _ => fun
  | [d] => { results := [.lit (.bool true)], args := [d] }
  | _ => none }
def latticeOrdersRow : OpenClaim := { program := "ytlnigbjbnpkdhaa", sum := "61a9b1a4a73f826c3298dc5f179675ffe3d2b94aa8cf64a5240310fce59776f8", func := "ravelin/ravelinlaw1.LatticeOrders", spec := "latticeOrders", apart := false }
def LatticeOrdersSaid : Prop := latticeOrdersRow.holds Try.pinned (OpenSpec.ofChange latticeOrdersSpec)

/-- ITS FALSE NEIGHBOUR: 'it returns false'. Refute it at one input. -/
def latticeOrdersWrong : ChangeSpec := { name := "latticeOrders", fn := fun _ => fun
  | [d] => { results := [.lit (.bool false)], args := [d] }
  | _ => none }
def LatticeOrdersWrongFalsely : Prop := latticeOrdersRow.holds Try.pinned (OpenSpec.ofChange latticeOrdersWrong)

/-- 'ravelinlaw1.LatticeSpoils': WHATEVER THE INPUT: true; the input reads as it did. -/
def latticeSpoilsSpec : ChangeSpec := { name := "latticeSpoils", fn := fun _ => fun
  | [d1, d2, d3, d4] => { results := [.lit (.bool true)], args := [d1, d2, d3, d4] }
  | _ => none }
def latticeSpoilsRow : OpenClaim := { program := "ytlnigbjbnpkdhaa", sum := "61a9b1a4a73f826c3298dc5f179675ffe3d2b94aa8cf64a5240310fce59776f8", func := "ravelin/ravelinlaw1.LatticeSpoils", spec := "latticeSpoils", apart := false }
def LatticeSpoilsSaid : Prop := latticeSpoilsRow.holds Try.pinned (OpenSpec.ofChange latticeSpoilsSpec)

/-- ITS FALSE NEIGHBOUR: 'it returns false'. Refute it at one input. -/
def latticeSpoilsWrong : ChangeSpec := { name := "latticeSpoils", fn := fun _ => fun
  | [d1, d2, d3, d4] => { results := [.lit (.bool false)], args := [d1, d2, d3, d4] }
  | _ => none }
def LatticeSpoilsWrongFalsely : Prop := latticeSpoilsRow.holds Try.pinned (OpenSpec.ofChange latticeSpoilsWrong)

/-- 'ravelinlaw1.LatticeChains': WHATEVER THE INPUT: true; the input reads as it did. -/
def latticeChainsSpec : ChangeSpec := { name := "latticeChains", fn := fun _ => fun
  | [d1, d2, d3] => { results := [.lit (.bool true)], args := [d1, d2, d3] }
  | _ => none }
def latticeChainsRow : OpenClaim := { program := "ytlnigbjbnpkdhaa", sum := "61a9b1a4a73f826c3298dc5f179675ffe3d2b94aa8cf64a5240310fce59776f8", func := "ravelin/ravelinlaw1.LatticeChains", spec := "latticeChains", apart := false }
def LatticeChainsSaid : Prop := latticeChainsRow.holds Try.pinned (OpenSpec.ofChange latticeChainsSpec)

/-- ITS FALSE NEIGHBOUR: 'it returns false'. Refute it at one input. -/
def latticeChainsWrong : ChangeSpec := { name := "latticeChains", fn := fun _ => fun
  | [d1, d2, d3] => { results := [.lit (.bool false)], args := [d1, d2, d3] }
  | _ => none }
def LatticeChainsWrongFalsely : Prop := latticeChainsRow.holds Try.pinned (OpenSpec.ofChange latticeChainsWrong)

/-- 'ravelinlaw1.LatticeSets': WHATEVER THE INPUT: true; the input reads as it did. -/
def latticeSetsSpec : ChangeSpec := { name := "latticeSets", fn := fun _ => fun
  | [d1, d2, d3] => { results := [.lit (.bool true)], args := [d1, d2, d3] }
  | _ => none }
def latticeSetsRow : OpenClaim := { program := "ytlnigbjbnpkdhaa", sum := "61a9b1a4a73f826c3298dc5f179675ffe3d2b94aa8cf64a5240310fce59776f8", func := "ravelin/ravelinlaw1.LatticeSets", spec := "latticeSets", apart := false }
def LatticeSetsSaid : Prop := latticeSetsRow.holds Try.pinned (OpenSpec.ofChange latticeSetsSpec)

/-- ITS FALSE NEIGHBOUR: 'it returns false'. Refute it at one input. -/
def latticeSetsWrong : ChangeSpec := { name := "latticeSets", fn := fun _ => fun
  | [d1, d2, d3] => { results := [.lit (.bool false)], args := [d1, d2, d3] }
  | _ => none }
def LatticeSetsWrongFalsely : Prop := latticeSetsRow.holds Try.pinned (OpenSpec.ofChange latticeSetsWrong)

/-- 'ravelinlaw1.LatticeJoins': WHATEVER THE INPUT: true; the input reads as it did. -/
def latticeJoinsSpec : ChangeSpec := { name := "latticeJoins", fn := fun _ => fun
  | [d1, d2] => { results := [.lit (.bool true)], args := [d1, d2] }
  | _ => none }
def latticeJoinsRow : OpenClaim := { program := "ytlnigbjbnpkdhaa", sum := "61a9b1a4a73f826c3298dc5f179675ffe3d2b94aa8cf64a5240310fce59776f8", func := "ravelin/ravelinlaw1.LatticeJoins", spec := "latticeJoins", apart := false }
def LatticeJoinsSaid : Prop := latticeJoinsRow.holds Try.pinned (OpenSpec.ofChange latticeJoinsSpec)

/-- ITS FALSE NEIGHBOUR: 'it returns false'. Refute it at one input. -/
def latticeJoinsWrong : ChangeSpec := { name := "latticeJoins", fn := fun _ => fun
  | [d1, d2] => { results := [.lit (.bool false)], args := [d1, d2] }
  | _ => none }
def LatticeJoinsWrongFalsely : Prop := latticeJoinsRow.holds Try.pinned (OpenSpec.ofChange latticeJoinsWrong)

/-- 'ravelinlaw2.PlanTells': WHATEVER THE INPUT: true; the input reads as it did. -/
def planTellsSpec : ChangeSpec := { name := "planTells", fn := fun _ => fun
  | [d1, d2, d3] => { results := [.lit (.bool true)], args := [d1, d2, d3] }
  | _ => none }
def planTellsRow : OpenClaim := { program := "ytlnigbjbnpkdhaa", sum := "61a9b1a4a73f826c3298dc5f179675ffe3d2b94aa8cf64a5240310fce59776f8", func := "ravelin/ravelinlaw2.PlanTells", spec := "planTells", inPlace := ["internal/abi.NoEscape"], apart := false }
def PlanTellsSaid : Prop := planTellsRow.holds Try.pinned (OpenSpec.ofChange planTellsSpec)

/-- ITS FALSE NEIGHBOUR: 'it returns false'. Refute it at one input. -/
def planTellsWrong : ChangeSpec := { name := "planTells", fn := fun _ => fun
  | [d1, d2, d3] => { results := [.lit (.bool false)], args := [d1, d2, d3] }
  | _ => none }
def PlanTellsWrongFalsely : Prop := planTellsRow.holds Try.pinned (OpenSpec.ofChange planTellsWrong)

/-- 'ravelinlaw2.PlanBack': WHATEVER THE INPUT: true; the input reads as it did. -/
def planBackSpec : ChangeSpec := { name := "planBack", fn := fun _ => fun
  | [d1, d2] => { results := [.lit (.bool true)], args := [d1, d2] }
  | _ => none }
def planBackRow : OpenClaim := { program := "ytlnigbjbnpkdhaa", sum := "61a9b1a4a73f826c3298dc5f179675ffe3d2b94aa8cf64a5240310fce59776f8", func := "ravelin/ravelinlaw2.PlanBack", spec := "planBack", inPlace := ["internal/abi.NoEscape"], apart := false }
def PlanBackSaid : Prop := planBackRow.holds Try.pinned (OpenSpec.ofChange planBackSpec)

/-- ITS FALSE NEIGHBOUR: 'it returns false'. Refute it at one input. -/
def planBackWrong : ChangeSpec := { name := "planBack", fn := fun _ => fun
  | [d1, d2] => { results := [.lit (.bool false)], args := [d1, d2] }
  | _ => none }
def PlanBackWrongFalsely : Prop := planBackRow.holds Try.pinned (OpenSpec.ofChange planBackWrong)

/-- 'ravelinlaw2.PlanSpoilt': WHATEVER THE INPUT: true; the input reads as it did. -/
def planSpoiltSpec : ChangeSpec := { name := "planSpoilt", fn := fun _ => fun
  | [d1, d2] => { results := [.lit (.bool true)], args := [d1, d2] }
  | _ => none }
def planSpoiltRow : OpenClaim := { program := "ytlnigbjbnpkdhaa", sum := "61a9b1a4a73f826c3298dc5f179675ffe3d2b94aa8cf64a5240310fce59776f8", func := "ravelin/ravelinlaw2.PlanSpoilt", spec := "planSpoilt", inPlace := ["internal/abi.NoEscape"], apart := false }
def PlanSpoiltSaid : Prop := planSpoiltRow.holds Try.pinned (OpenSpec.ofChange planSpoiltSpec)

/-- ITS FALSE NEIGHBOUR: 'it returns false'. Refute it at one input. -/
def planSpoiltWrong : ChangeSpec := { name := "planSpoilt", fn := fun _ => fun
  | [d1, d2] => { results := [.lit (.bool false)], args := [d1, d2] }
  | _ => none }
def PlanSpoiltWrongFalsely : Prop := planSpoiltRow.holds Try.pinned (OpenSpec.ofChange planSpoiltWrong)

/-- 'ravelinlaw2.PlanChains': WHATEVER THE INPUT: true; the input reads as it did. -/
def planChainsSpec : ChangeSpec := { name := "planChains", fn := fun _ => fun
  | [d1, d2, d3] => { results := [.lit (.bool true)], args := [d1, d2, d3] }
  | _ => none }
def planChainsRow : OpenClaim := { program := "ytlnigbjbnpkdhaa", sum := "61a9b1a4a73f826c3298dc5f179675ffe3d2b94aa8cf64a5240310fce59776f8", func := "ravelin/ravelinlaw2.PlanChains", spec := "planChains", inPlace := ["internal/abi.NoEscape"], apart := false }
def PlanChainsSaid : Prop := planChainsRow.holds Try.pinned (OpenSpec.ofChange planChainsSpec)

/-- ITS FALSE NEIGHBOUR: 'it returns false'. Refute it at one input. -/
def planChainsWrong : ChangeSpec := { name := "planChains", fn := fun _ => fun
  | [d1, d2, d3] => { results := [.lit (.bool false)], args := [d1, d2, d3] }
  | _ => none }
def PlanChainsWrongFalsely : Prop := planChainsRow.holds Try.pinned (OpenSpec.ofChange planChainsWrong)

/- THE SECOND FORM. 'bulk': how many values and letters a reading holds, each counted each time it is reached (what is shared counts as often as it is met; a slice's spare places count too). A statement '..UptoSaid' is the law's where the arguments, and the package variables that the reading takes, are together of bulk at most 1048576: NARROWER than '..Said'. Prove '..Said' where nothing that the law and all that it calls make is longer than what came in: it says more and counts as full. Else prove '..UptoSaid'. A law counts once. -/
mutual
def uptoBulk {H : Type} : DataW H → Nat
  | .lit (.string bytes) => bytes.length + 1
  | .lit _ => 1
  | .nil => 1
  | .ptr d => uptoBulk d + 1
  | .slice elems spare => uptoBulkAll elems + uptoBulkAll spare + 1
  | .agg parts => uptoBulkAll parts + 1
  | .iface _ d => uptoBulk d + 1
  | .map entries => uptoBulkEntries entries + 1
  | .held _ => 1
def uptoBulkAll {H : Type} : List (DataW H) → Nat
  | [] => 0
  | d :: r => uptoBulk d + uptoBulkAll r
def uptoBulkEntries {H : Type} : List (Lit × DataW H) → Nat
  | [] => 0
  | x :: r => uptoBulkEntry x + uptoBulkEntries r
def uptoBulkEntry {H : Type} : Lit × DataW H → Nat
  | (.string bytes, d) => bytes.length + uptoBulk d + 1
  | (_, d) => uptoBulk d + 1
 end
def uptoSmall : (H : Type) → List (DataW H) → Bool := fun _ ds => decide (uptoBulkAll ds ≤ 1048576)
def OpenSpec.upto (s : _root_.Go.ChangeSpec) : _root_.Go.OpenSpec := { _root_.Go.OpenSpec.ofChange s with cond := some uptoSmall }

/-- 'ravelinlaw1.LatticeTells', WHERE WHAT IT READS IS OF BULK AT MOST 1048576: true; the input reads as it did. -/
def latticeTellsUptoRow : OpenClaim := { program := "ytlnigbjbnpkdhaa", sum := "61a9b1a4a73f826c3298dc5f179675ffe3d2b94aa8cf64a5240310fce59776f8", func := "ravelin/ravelinlaw1.LatticeTells", spec := "latticeTells", apart := false, narrowed := true }
def LatticeTellsUptoSaid : Prop := latticeTellsUptoRow.holds Try.pinned (OpenSpec.upto latticeTellsSpec)

/-- 'ravelinlaw1.LatticeOrders', WHERE WHAT IT READS IS OF BULK AT MOST 1048576: true; the input reads as it did. -/
def latticeOrdersUptoRow : OpenClaim := { program := "ytlnigbjbnpkdhaa", sum := "61a9b1a4a73f826c3298dc5f179675ffe3d2b94aa8cf64a5240310fce59776f8", func := "ravelin/ravelinlaw1.LatticeOrders", spec := "latticeOrders", apart := false, narrowed := true }
def LatticeOrdersUptoSaid : Prop := latticeOrdersUptoRow.holds Try.pinned (OpenSpec.upto latticeOrdersSpec)

/-- 'ravelinlaw1.LatticeSpoils', WHERE WHAT IT READS IS OF BULK AT MOST 1048576: true; the input reads as it did. -/
def latticeSpoilsUptoRow : OpenClaim := { program := "ytlnigbjbnpkdhaa", sum := "61a9b1a4a73f826c3298dc5f179675ffe3d2b94aa8cf64a5240310fce59776f8", func := "ravelin/ravelinlaw1.LatticeSpoils", spec := "latticeSpoils", apart := false, narrowed := true }
def LatticeSpoilsUptoSaid : Prop := latticeSpoilsUptoRow.holds Try.pinned (OpenSpec.upto latticeSpoilsSpec)

/-- 'ravelinlaw1.LatticeChains', WHERE WHAT IT READS IS OF BULK AT MOST 1048576: true; the input reads as it did. -/
def latticeChainsUptoRow : OpenClaim := { program := "ytlnigbjbnpkdhaa", sum := "61a9b1a4a73f826c3298dc5f179675ffe3d2b94aa8cf64a5240310fce59776f8", func := "ravelin/ravelinlaw1.LatticeChains", spec := "latticeChains", apart := false, narrowed := true }
def LatticeChainsUptoSaid : Prop := latticeChainsUptoRow.holds Try.pinned (OpenSpec.upto latticeChainsSpec)

/-- 'ravelinlaw1.LatticeSets', WHERE WHAT IT READS IS OF BULK AT MOST 1048576: true; the input reads as it did. -/
def latticeSetsUptoRow : OpenClaim := { program := "ytlnigbjbnpkdhaa", sum := "61a9b1a4a73f826c3298dc5f179675ffe3d2b94aa8cf64a5240310fce59776f8", func := "ravelin/ravelinlaw1.LatticeSets", spec := "latticeSets", apart := false, narrowed := true }
def LatticeSetsUptoSaid : Prop := latticeSetsUptoRow.holds Try.pinned (OpenSpec.upto latticeSetsSpec)

/-- 'ravelinlaw1.LatticeJoins', WHERE WHAT IT READS IS OF BULK AT MOST 1048576: true; the input reads as it did. -/
def latticeJoinsUptoRow : OpenClaim := { program := "ytlnigbjbnpkdhaa", sum := "61a9b1a4a73f826c3298dc5f179675ffe3d2b94aa8cf64a5240310fce59776f8", func := "ravelin/ravelinlaw1.LatticeJoins", spec := "latticeJoins", apart := false, narrowed := true }
def LatticeJoinsUptoSaid : Prop := latticeJoinsUptoRow.holds Try.pinned (OpenSpec.upto latticeJoinsSpec)

/-- 'ravelinlaw2.PlanTells', WHERE WHAT IT READS IS OF BULK AT MOST 1048576: true; the input reads as it did. -/
def planTellsUptoRow : OpenClaim := { program := "ytlnigbjbnpkdhaa", sum := "61a9b1a4a73f826c3298dc5f179675ffe3d2b94aa8cf64a5240310fce59776f8", func := "ravelin/ravelinlaw2.PlanTells", spec := "planTells", inPlace := ["internal/abi.NoEscape"], apart := false, narrowed := true }
def PlanTellsUptoSaid : Prop := planTellsUptoRow.holds Try.pinned (OpenSpec.upto planTellsSpec)

/-- 'ravelinlaw2.PlanBack', WHERE WHAT IT READS IS OF BULK AT MOST 1048576: true; the input reads as it did. -/
def planBackUptoRow : OpenClaim := { program := "ytlnigbjbnpkdhaa", sum := "61a9b1a4a73f826c3298dc5f179675ffe3d2b94aa8cf64a5240310fce59776f8", func := "ravelin/ravelinlaw2.PlanBack", spec := "planBack", inPlace := ["internal/abi.NoEscape"], apart := false, narrowed := true }
def PlanBackUptoSaid : Prop := planBackUptoRow.holds Try.pinned (OpenSpec.upto planBackSpec)

/-- 'ravelinlaw2.PlanSpoilt', WHERE WHAT IT READS IS OF BULK AT MOST 1048576: true; the input reads as it did. -/
def planSpoiltUptoRow : OpenClaim := { program := "ytlnigbjbnpkdhaa", sum := "61a9b1a4a73f826c3298dc5f179675ffe3d2b94aa8cf64a5240310fce59776f8", func := "ravelin/ravelinlaw2.PlanSpoilt", spec := "planSpoilt", inPlace := ["internal/abi.NoEscape"], apart := false, narrowed := true }
def PlanSpoiltUptoSaid : Prop := planSpoiltUptoRow.holds Try.pinned (OpenSpec.upto planSpoiltSpec)

/-- 'ravelinlaw2.PlanChains', WHERE WHAT IT READS IS OF BULK AT MOST 1048576: true; the input reads as it did. -/
def planChainsUptoRow : OpenClaim := { program := "ytlnigbjbnpkdhaa", sum := "61a9b1a4a73f826c3298dc5f179675ffe3d2b94aa8cf64a5240310fce59776f8", func := "ravelin/ravelinlaw2.PlanChains", spec := "planChains", inPlace := ["internal/abi.NoEscape"], apart := false, narrowed := true }
def PlanChainsUptoSaid : Prop := planChainsUptoRow.holds Try.pinned (OpenSpec.upto planChainsSpec)

end Rows
end Go.Proofs.Ytlnigbjbnpkdhaa
