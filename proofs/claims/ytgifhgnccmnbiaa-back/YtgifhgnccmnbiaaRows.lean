/-
  No cell of these rows narrows 'for every input' (looked for: loops, veiled, ifaces, maps, wideKeys, modest, calm, conditions, laid).
  DERIVED. THE GIVEN ROWS OF THIS SEAT. 12 by the template 'for every input the law returns true; each argument reads behind the call as it read before'; 0 by the template 'total and deterministic' (their statements: YtgifhgnccmnbiaaTotals.lean).
  GIVEN WITH THE SEED: the statements are not yours to turn. If you find one false, say at which input.
  Laid BY PROGRAM, IN A SANDBOX (cutbox-rows.mjs): the forced cells as the released guide's own fill.sh prints them over the translation 1a58cc4ec4582061… (all of the seat's roots in one cut). By AI agents, Wed Nov 11 2026. No macro, syntax, notation, axiom, sorry.
-/
import Derived.Test.YtgifhgnccmnbiaaChecked
import GoSem.Claim
import GoSem.ClaimJoined
import GoSem.ClaimMapViews
import Derived.JoinedTies
import Derived.KernelRfl
namespace Go.Proofs.Ytgifhgnccmnbiaa
/- THE CELL 'sum', in the pinned program and in every row, IS THE sha256 OF THE DUMP (.gsa) THAT YtgifhgnccmnbiaaProg.lean LOADS. Nothing in Lean hashes anything: it is a label: what it is worth is what the hold of that sum in a sandbox is worth. -/
noncomputable def Try.pinned : Pinned := { name := "ytgifhgnccmnbiaa", sum := "1a58cc4ec458206190b078ad079cc5780181fa22c1ed5081b071f2e04d50cccf", checked := Try.checked }
namespace Rows
def none {H : Type} : Left H := { results := [], args := [] }

/-- 'siftlaw.Checks': WHATEVER THE INPUT: true; the input reads as it did. -/
def checksSpec : ChangeSpec := { name := "checks", fn := fun _ => fun
  | [d] => { results := [.lit (.bool true)], args := [d] }
  | _ => none }
def checksRow : OpenClaim := { program := "ytgifhgnccmnbiaa", sum := "1a58cc4ec458206190b078ad079cc5780181fa22c1ed5081b071f2e04d50cccf", func := "sift/siftlaw.Checks", spec := "checks", recurses := true, apart := false }
def ChecksSaid : Prop := checksRow.holds Try.pinned (OpenSpec.ofChange checksSpec)

/-- ITS FALSE NEIGHBOUR: 'it returns false'. Refute it at one input. -/
def checksWrong : ChangeSpec := { name := "checks", fn := fun _ => fun
  | [d] => { results := [.lit (.bool false)], args := [d] }
  | _ => none }
def ChecksWrongFalsely : Prop := checksRow.holds Try.pinned (OpenSpec.ofChange checksWrong)

/-- 'siftlaw.Matches': WHATEVER THE INPUT: true; the input reads as it did. -/
def matchesSpec : ChangeSpec := { name := "matches", fn := fun _ => fun
  | [d1, d2, d3] => { results := [.lit (.bool true)], args := [d1, d2, d3] }
  | _ => none }
def matchesRow : OpenClaim := { program := "ytgifhgnccmnbiaa", sum := "1a58cc4ec458206190b078ad079cc5780181fa22c1ed5081b071f2e04d50cccf", func := "sift/siftlaw.Matches", spec := "matches", recurses := true, apart := false }
def MatchesSaid : Prop := matchesRow.holds Try.pinned (OpenSpec.ofChange matchesSpec)

/-- ITS FALSE NEIGHBOUR: 'it returns false'. Refute it at one input. -/
def matchesWrong : ChangeSpec := { name := "matches", fn := fun _ => fun
  | [d1, d2, d3] => { results := [.lit (.bool false)], args := [d1, d2, d3] }
  | _ => none }
def MatchesWrongFalsely : Prop := matchesRow.holds Try.pinned (OpenSpec.ofChange matchesWrong)

/-- 'siftkeep.Either': WHATEVER THE INPUT: true; the input reads as it did. -/
def eitherSpec : ChangeSpec := { name := "either", fn := fun _ => fun
  | [d1, d2, d3, d4, d5] => { results := [.lit (.bool true)], args := [d1, d2, d3, d4, d5] }
  | _ => none }
def eitherRow : OpenClaim := { program := "ytgifhgnccmnbiaa", sum := "1a58cc4ec458206190b078ad079cc5780181fa22c1ed5081b071f2e04d50cccf", func := "sift/siftkeep.Either", spec := "either", recurses := true, apart := false }
def EitherSaid : Prop := eitherRow.holds Try.pinned (OpenSpec.ofChange eitherSpec)

/-- ITS FALSE NEIGHBOUR: 'it returns false'. Refute it at one input. -/
def eitherWrong : ChangeSpec := { name := "either", fn := fun _ => fun
  | [d1, d2, d3, d4, d5] => { results := [.lit (.bool false)], args := [d1, d2, d3, d4, d5] }
  | _ => none }
def EitherWrongFalsely : Prop := eitherRow.holds Try.pinned (OpenSpec.ofChange eitherWrong)

/-- 'siftkeep.Behind': WHATEVER THE INPUT: true; the input reads as it did. -/
def behindSpec : ChangeSpec := { name := "behind", fn := fun _ => fun
  | [d1, d2, d3, d4] => { results := [.lit (.bool true)], args := [d1, d2, d3, d4] }
  | _ => none }
def behindRow : OpenClaim := { program := "ytgifhgnccmnbiaa", sum := "1a58cc4ec458206190b078ad079cc5780181fa22c1ed5081b071f2e04d50cccf", func := "sift/siftkeep.Behind", spec := "behind", recurses := true, apart := false }
def BehindSaid : Prop := behindRow.holds Try.pinned (OpenSpec.ofChange behindSpec)

/-- ITS FALSE NEIGHBOUR: 'it returns false'. Refute it at one input. -/
def behindWrong : ChangeSpec := { name := "behind", fn := fun _ => fun
  | [d1, d2, d3, d4] => { results := [.lit (.bool false)], args := [d1, d2, d3, d4] }
  | _ => none }
def BehindWrongFalsely : Prop := behindRow.holds Try.pinned (OpenSpec.ofChange behindWrong)

/-- 'siftkeep.Again': WHATEVER THE INPUT: true; the input reads as it did. -/
def againSpec : ChangeSpec := { name := "again", fn := fun _ => fun
  | [d1, d2, d3] => { results := [.lit (.bool true)], args := [d1, d2, d3] }
  | _ => none }
def againRow : OpenClaim := { program := "ytgifhgnccmnbiaa", sum := "1a58cc4ec458206190b078ad079cc5780181fa22c1ed5081b071f2e04d50cccf", func := "sift/siftkeep.Again", spec := "again", recurses := true, apart := false }
def AgainSaid : Prop := againRow.holds Try.pinned (OpenSpec.ofChange againSpec)

/-- ITS FALSE NEIGHBOUR: 'it returns false'. Refute it at one input. -/
def againWrong : ChangeSpec := { name := "again", fn := fun _ => fun
  | [d1, d2, d3] => { results := [.lit (.bool false)], args := [d1, d2, d3] }
  | _ => none }
def AgainWrongFalsely : Prop := againRow.holds Try.pinned (OpenSpec.ofChange againWrong)

/-- 'siftkeep.Within': WHATEVER THE INPUT: true; the input reads as it did. -/
def withinSpec : ChangeSpec := { name := "within", fn := fun _ => fun
  | [d1, d2, d3] => { results := [.lit (.bool true)], args := [d1, d2, d3] }
  | _ => none }
def withinRow : OpenClaim := { program := "ytgifhgnccmnbiaa", sum := "1a58cc4ec458206190b078ad079cc5780181fa22c1ed5081b071f2e04d50cccf", func := "sift/siftkeep.Within", spec := "within", recurses := true, apart := false }
def WithinSaid : Prop := withinRow.holds Try.pinned (OpenSpec.ofChange withinSpec)

/-- ITS FALSE NEIGHBOUR: 'it returns false'. Refute it at one input. -/
def withinWrong : ChangeSpec := { name := "within", fn := fun _ => fun
  | [d1, d2, d3] => { results := [.lit (.bool false)], args := [d1, d2, d3] }
  | _ => none }
def WithinWrongFalsely : Prop := withinRow.holds Try.pinned (OpenSpec.ofChange withinWrong)

/-- 'siftlaw.Shapes': WHATEVER THE INPUT: true; the input reads as it did. -/
def shapesSpec : ChangeSpec := { name := "shapes", fn := fun _ => fun
  | [d] => { results := [.lit (.bool true)], args := [d] }
  | _ => none }
def shapesRow : OpenClaim := { program := "ytgifhgnccmnbiaa", sum := "1a58cc4ec458206190b078ad079cc5780181fa22c1ed5081b071f2e04d50cccf", func := "sift/siftlaw.Shapes", spec := "shapes", apart := false }
def ShapesSaid : Prop := shapesRow.holds Try.pinned (OpenSpec.ofChange shapesSpec)

/-- ITS FALSE NEIGHBOUR: 'it returns false'. Refute it at one input. -/
def shapesWrong : ChangeSpec := { name := "shapes", fn := fun _ => fun
  | [d] => { results := [.lit (.bool false)], args := [d] }
  | _ => none }
def ShapesWrongFalsely : Prop := shapesRow.holds Try.pinned (OpenSpec.ofChange shapesWrong)

/-- 'siftlaw.Cuts': WHATEVER THE INPUT: true; the input reads as it did. -/
def cutsSpec : ChangeSpec := { name := "cuts", fn := fun _ => fun
  | [d1, d2, d3] => { results := [.lit (.bool true)], args := [d1, d2, d3] }
  | _ => none }
def cutsRow : OpenClaim := { program := "ytgifhgnccmnbiaa", sum := "1a58cc4ec458206190b078ad079cc5780181fa22c1ed5081b071f2e04d50cccf", func := "sift/siftlaw.Cuts", spec := "cuts", recurses := true, apart := false }
def CutsSaid : Prop := cutsRow.holds Try.pinned (OpenSpec.ofChange cutsSpec)

/-- ITS FALSE NEIGHBOUR: 'it returns false'. Refute it at one input. -/
def cutsWrong : ChangeSpec := { name := "cuts", fn := fun _ => fun
  | [d1, d2, d3] => { results := [.lit (.bool false)], args := [d1, d2, d3] }
  | _ => none }
def CutsWrongFalsely : Prop := cutsRow.holds Try.pinned (OpenSpec.ofChange cutsWrong)

/-- 'siftlaw.PacksZ': WHATEVER THE INPUT: true; the input reads as it did. -/
def packsZSpec : ChangeSpec := { name := "packsZ", fn := fun _ => fun
  | [d1, d2] => { results := [.lit (.bool true)], args := [d1, d2] }
  | _ => none }
def packsZRow : OpenClaim := { program := "ytgifhgnccmnbiaa", sum := "1a58cc4ec458206190b078ad079cc5780181fa22c1ed5081b071f2e04d50cccf", func := "sift/siftlaw.PacksZ", spec := "packsZ", apart := false }
def PacksZSaid : Prop := packsZRow.holds Try.pinned (OpenSpec.ofChange packsZSpec)

/-- ITS FALSE NEIGHBOUR: 'it returns false'. Refute it at one input. -/
def packsZWrong : ChangeSpec := { name := "packsZ", fn := fun _ => fun
  | [d1, d2] => { results := [.lit (.bool false)], args := [d1, d2] }
  | _ => none }
def PacksZWrongFalsely : Prop := packsZRow.holds Try.pinned (OpenSpec.ofChange packsZWrong)

/-- 'siftlaw.PacksG': WHATEVER THE INPUT: true; the input reads as it did. -/
def packsGSpec : ChangeSpec := { name := "packsG", fn := fun _ => fun
  | [d] => { results := [.lit (.bool true)], args := [d] }
  | _ => none }
def packsGRow : OpenClaim := { program := "ytgifhgnccmnbiaa", sum := "1a58cc4ec458206190b078ad079cc5780181fa22c1ed5081b071f2e04d50cccf", func := "sift/siftlaw.PacksG", spec := "packsG", apart := false }
def PacksGSaid : Prop := packsGRow.holds Try.pinned (OpenSpec.ofChange packsGSpec)

/-- ITS FALSE NEIGHBOUR: 'it returns false'. Refute it at one input. -/
def packsGWrong : ChangeSpec := { name := "packsG", fn := fun _ => fun
  | [d] => { results := [.lit (.bool false)], args := [d] }
  | _ => none }
def PacksGWrongFalsely : Prop := packsGRow.holds Try.pinned (OpenSpec.ofChange packsGWrong)

/-- 'siftkeep.Back': WHATEVER THE INPUT: true; the input reads as it did. -/
def backSpec : ChangeSpec := { name := "back", fn := fun _ => fun
  | [d1, d2] => { results := [.lit (.bool true)], args := [d1, d2] }
  | _ => none }
def backRow : OpenClaim := { program := "ytgifhgnccmnbiaa", sum := "1a58cc4ec458206190b078ad079cc5780181fa22c1ed5081b071f2e04d50cccf", func := "sift/siftkeep.Back", spec := "back", recurses := true, apart := false }
def BackSaid : Prop := backRow.holds Try.pinned (OpenSpec.ofChange backSpec)

/-- ITS FALSE NEIGHBOUR: 'it returns false'. Refute it at one input. -/
def backWrong : ChangeSpec := { name := "back", fn := fun _ => fun
  | [d1, d2] => { results := [.lit (.bool false)], args := [d1, d2] }
  | _ => none }
def BackWrongFalsely : Prop := backRow.holds Try.pinned (OpenSpec.ofChange backWrong)

/-- 'siftkeep.Joined': WHATEVER THE INPUT: true; the input reads as it did. -/
def joinedSpec : ChangeSpec := { name := "joined", fn := fun _ => fun
  | [d1, d2, d3, d4, d5] => { results := [.lit (.bool true)], args := [d1, d2, d3, d4, d5] }
  | _ => none }
def joinedRow : OpenClaim := { program := "ytgifhgnccmnbiaa", sum := "1a58cc4ec458206190b078ad079cc5780181fa22c1ed5081b071f2e04d50cccf", func := "sift/siftkeep.Joined", spec := "joined", recurses := true, apart := false }
def JoinedSaid : Prop := joinedRow.holds Try.pinned (OpenSpec.ofChange joinedSpec)

/-- ITS FALSE NEIGHBOUR: 'it returns false'. Refute it at one input. -/
def joinedWrong : ChangeSpec := { name := "joined", fn := fun _ => fun
  | [d1, d2, d3, d4, d5] => { results := [.lit (.bool false)], args := [d1, d2, d3, d4, d5] }
  | _ => none }
def JoinedWrongFalsely : Prop := joinedRow.holds Try.pinned (OpenSpec.ofChange joinedWrong)

/- THE SECOND FORM. 'bulk': how many values and letters a reading holds, each counted each time it is reached (what is shared counts as often as it is met; a slice's spare places count too). A statement '..UptoSaid' is the law's where the arguments, and the package variables that the reading takes, are together of bulk at most 1048576: NARROWER than '..Said'. Prove '..Said' where nothing that the law and all that it calls make is longer than what came in: it says more and counts as full. Else prove '..UptoSaid'. A law counts once. -/
mutual
def uptoBulk {H : Type} : DataW H → Nat
  | .lit (.string bytes) => bytes.length + 1
  | .lit _ => 1
  | .nil => 1
  | .ptr d => uptoBulk d + 1
  | .slice elems spare => uptoBulkAll elems + uptoBulkAll spare + 1
  | .agg parts => uptoBulkAll parts + 1
  | .iface _ d => uptoBulk d + 1
  | .map entries => uptoBulkEntries entries + 1
  | .held _ => 1
def uptoBulkAll {H : Type} : List (DataW H) → Nat
  | [] => 0
  | d :: r => uptoBulk d + uptoBulkAll r
def uptoBulkEntries {H : Type} : List (Lit × DataW H) → Nat
  | [] => 0
  | x :: r => uptoBulkEntry x + uptoBulkEntries r
def uptoBulkEntry {H : Type} : Lit × DataW H → Nat
  | (.string bytes, d) => bytes.length + uptoBulk d + 1
  | (_, d) => uptoBulk d + 1
 end
def uptoSmall : (H : Type) → List (DataW H) → Bool := fun _ ds => decide (uptoBulkAll ds ≤ 1048576)
def OpenSpec.upto (s : _root_.Go.ChangeSpec) : _root_.Go.OpenSpec := { _root_.Go.OpenSpec.ofChange s with cond := some uptoSmall }

/-- 'siftlaw.Checks', WHERE WHAT IT READS IS OF BULK AT MOST 1048576: true; the input reads as it did. -/
def checksUptoRow : OpenClaim := { program := "ytgifhgnccmnbiaa", sum := "1a58cc4ec458206190b078ad079cc5780181fa22c1ed5081b071f2e04d50cccf", func := "sift/siftlaw.Checks", spec := "checks", recurses := true, apart := false, narrowed := true }
def ChecksUptoSaid : Prop := checksUptoRow.holds Try.pinned (OpenSpec.upto checksSpec)

/-- 'siftlaw.Matches', WHERE WHAT IT READS IS OF BULK AT MOST 1048576: true; the input reads as it did. -/
def matchesUptoRow : OpenClaim := { program := "ytgifhgnccmnbiaa", sum := "1a58cc4ec458206190b078ad079cc5780181fa22c1ed5081b071f2e04d50cccf", func := "sift/siftlaw.Matches", spec := "matches", recurses := true, apart := false, narrowed := true }
def MatchesUptoSaid : Prop := matchesUptoRow.holds Try.pinned (OpenSpec.upto matchesSpec)

/-- 'siftkeep.Either', WHERE WHAT IT READS IS OF BULK AT MOST 1048576: true; the input reads as it did. -/
def eitherUptoRow : OpenClaim := { program := "ytgifhgnccmnbiaa", sum := "1a58cc4ec458206190b078ad079cc5780181fa22c1ed5081b071f2e04d50cccf", func := "sift/siftkeep.Either", spec := "either", recurses := true, apart := false, narrowed := true }
def EitherUptoSaid : Prop := eitherUptoRow.holds Try.pinned (OpenSpec.upto eitherSpec)

/-- 'siftkeep.Behind', WHERE WHAT IT READS IS OF BULK AT MOST 1048576: true; the input reads as it did. -/
def behindUptoRow : OpenClaim := { program := "ytgifhgnccmnbiaa", sum := "1a58cc4ec458206190b078ad079cc5780181fa22c1ed5081b071f2e04d50cccf", func := "sift/siftkeep.Behind", spec := "behind", recurses := true, apart := false, narrowed := true }
def BehindUptoSaid : Prop := behindUptoRow.holds Try.pinned (OpenSpec.upto behindSpec)

/-- 'siftkeep.Again', WHERE WHAT IT READS IS OF BULK AT MOST 1048576: true; the input reads as it did. -/
def againUptoRow : OpenClaim := { program := "ytgifhgnccmnbiaa", sum := "1a58cc4ec458206190b078ad079cc5780181fa22c1ed5081b071f2e04d50cccf", func := "sift/siftkeep.Again", spec := "again", recurses := true, apart := false, narrowed := true }
def AgainUptoSaid : Prop := againUptoRow.holds Try.pinned (OpenSpec.upto againSpec)

/-- 'siftkeep.Within', WHERE WHAT IT READS IS OF BULK AT MOST 1048576: true; the input reads as it did. -/
def withinUptoRow : OpenClaim := { program := "ytgifhgnccmnbiaa", sum := "1a58cc4ec458206190b078ad079cc5780181fa22c1ed5081b071f2e04d50cccf", func := "sift/siftkeep.Within", spec := "within", recurses := true, apart := false, narrowed := true }
def WithinUptoSaid : Prop := withinUptoRow.holds Try.pinned (OpenSpec.upto withinSpec)

/-- 'siftlaw.Shapes', WHERE WHAT IT READS IS OF BULK AT MOST 1048576: true; the input reads as it did. -/
def shapesUptoRow : OpenClaim := { program := "ytgifhgnccmnbiaa", sum := "1a58cc4ec458206190b078ad079cc5780181fa22c1ed5081b071f2e04d50cccf", func := "sift/siftlaw.Shapes", spec := "shapes", apart := false, narrowed := true }
def ShapesUptoSaid : Prop := shapesUptoRow.holds Try.pinned (OpenSpec.upto shapesSpec)

/-- 'siftlaw.Cuts', WHERE WHAT IT READS IS OF BULK AT MOST 1048576: true; the input reads as it did. -/
def cutsUptoRow : OpenClaim := { program := "ytgifhgnccmnbiaa", sum := "1a58cc4ec458206190b078ad079cc5780181fa22c1ed5081b071f2e04d50cccf", func := "sift/siftlaw.Cuts", spec := "cuts", recurses := true, apart := false, narrowed := true }
def CutsUptoSaid : Prop := cutsUptoRow.holds Try.pinned (OpenSpec.upto cutsSpec)

/-- 'siftlaw.PacksZ', WHERE WHAT IT READS IS OF BULK AT MOST 1048576: true; the input reads as it did. -/
def packsZUptoRow : OpenClaim := { program := "ytgifhgnccmnbiaa", sum := "1a58cc4ec458206190b078ad079cc5780181fa22c1ed5081b071f2e04d50cccf", func := "sift/siftlaw.PacksZ", spec := "packsZ", apart := false, narrowed := true }
def PacksZUptoSaid : Prop := packsZUptoRow.holds Try.pinned (OpenSpec.upto packsZSpec)

/-- 'siftlaw.PacksG', WHERE WHAT IT READS IS OF BULK AT MOST 1048576: true; the input reads as it did. -/
def packsGUptoRow : OpenClaim := { program := "ytgifhgnccmnbiaa", sum := "1a58cc4ec458206190b078ad079cc5780181fa22c1ed5081b071f2e04d50cccf", func := "sift/siftlaw.PacksG", spec := "packsG", apart := false, narrowed := true }
def PacksGUptoSaid : Prop := packsGUptoRow.holds Try.pinned (OpenSpec.upto packsGSpec)

/-- 'siftkeep.Back', WHERE WHAT IT READS IS OF BULK AT MOST 1048576: true; the input reads as it did. -/
def backUptoRow : OpenClaim := { program := "ytgifhgnccmnbiaa", sum := "1a58cc4ec458206190b078ad079cc5780181fa22c1ed5081b071f2e04d50cccf", func := "sift/siftkeep.Back", spec := "back", recurses := true, apart := false, narrowed := true }
def BackUptoSaid : Prop := backUptoRow.holds Try.pinned (OpenSpec.upto backSpec)

/-- 'siftkeep.Joined', WHERE WHAT IT READS IS OF BULK AT MOST 1048576: true; the input reads as it did. -/
def joinedUptoRow : OpenClaim := { program := "ytgifhgnccmnbiaa", sum := "1a58cc4ec458206190b078ad079cc5780181fa22c1ed5081b071f2e04d50cccf", func := "sift/siftkeep.Joined", spec := "joined", recurses := true, apart := false, narrowed := true }
def JoinedUptoSaid : Prop := joinedUptoRow.holds Try.pinned (OpenSpec.upto joinedSpec)

end Rows
end Go.Proofs.Ytgifhgnccmnbiaa
