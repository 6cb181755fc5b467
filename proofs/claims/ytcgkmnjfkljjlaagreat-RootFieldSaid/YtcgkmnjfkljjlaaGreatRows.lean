/-
  No cell of these rows narrows 'for every input' (looked for: loops, veiled, ifaces, maps, wideKeys, modest, calm, conditions, laid).
  DERIVED. THE GIVEN ROWS OF THIS SEAT. 9 by the template 'for every input the law returns true; each argument reads behind the call as it read before'; 0 by the template 'total and deterministic' (their statements: YtcgkmnjfkljjlaaGreatTotals.lean).
  GIVEN WITH THE SEED: the statements are not yours to turn. If you find one false, say at which input.
  Laid BY PROGRAM, IN A SANDBOX (cutbox-rows.mjs): the forced cells as the released guide's own fill.sh prints them over the translation 55d359febeed72c8… (all of the seat's roots in one cut). By AI agents, Wed Nov 11 2026. No macro, syntax, notation, axiom, sorry.
-/
import Derived.Test.YtcgkmnjfkljjlaaGreatChecked
import GoSem.Claim
import GoSem.ClaimJoined
import GoSem.ClaimMapViews
import Derived.JoinedTies
import Derived.KernelRfl
namespace Go.Proofs.YtcgkmnjfkljjlaaGreat
/- THE CELL 'sum', in the pinned program and in every row, IS THE sha256 OF THE DUMP (.gsa) THAT YtcgkmnjfkljjlaaGreatProg.lean LOADS. Nothing in Lean hashes anything: it is a label: what it is worth is what the hold of that sum in a sandbox is worth. -/
noncomputable def Tryz.pinned : Pinned := { name := "ytcgkmnjfkljjlaagreat", sum := "55d359febeed72c8e4b42125ebc3c768109ea976870414739ac28ac137baa3cd", checked := Tryz.checked }
namespace Rows
def none {H : Type} : Left H := { results := [], args := [] }

/-- 'swarflaw03.RootField': WHATEVER THE INPUT: true; the input reads as it did. -/
def rootFieldSpec : ChangeSpec := { name := "rootField", fn := fun _ => fun
  | [d] => { results := [.lit (.bool true)], args := [d] }
  | _ => none }
def rootFieldRow : OpenClaim := { program := "ytcgkmnjfkljjlaagreat", sum := "55d359febeed72c8e4b42125ebc3c768109ea976870414739ac28ac137baa3cd", func := "swarf/swarflaw03.RootField", spec := "rootField", inPlace := ["math/bits.Add64"], unfollowed := true, recurses := true, named := ["math/bits.divideError", "math/bits.overflowError"], apart := false }
def RootFieldSaid : Prop := rootFieldRow.holds Tryz.pinned (OpenSpec.ofChange rootFieldSpec)

/-- ITS FALSE NEIGHBOUR: 'it returns false'. Refute it at one input. -/
def rootFieldWrong : ChangeSpec := { name := "rootField", fn := fun _ => fun
  | [d] => { results := [.lit (.bool false)], args := [d] }
  | _ => none }
def RootFieldWrongFalsely : Prop := rootFieldRow.holds Tryz.pinned (OpenSpec.ofChange rootFieldWrong)

/-- 'swarflaw05.RadicalSign': WHATEVER THE INPUT: true; the input reads as it did. -/
def radicalSignSpec : ChangeSpec := { name := "radicalSign", fn := fun _ => fun
  | [d] => { results := [.lit (.bool true)], args := [d] }
  | _ => none }
def radicalSignRow : OpenClaim := { program := "ytcgkmnjfkljjlaagreat", sum := "55d359febeed72c8e4b42125ebc3c768109ea976870414739ac28ac137baa3cd", func := "swarf/swarflaw05.RadicalSign", spec := "radicalSign", inPlace := ["math/bits.Add64", "math.sqrt"], unfollowed := true, recurses := true, named := ["math/bits.divideError", "math/bits.overflowError"], apart := false }
def RadicalSignSaid : Prop := radicalSignRow.holds Tryz.pinned (OpenSpec.ofChange radicalSignSpec)

/-- ITS FALSE NEIGHBOUR: 'it returns false'. Refute it at one input. -/
def radicalSignWrong : ChangeSpec := { name := "radicalSign", fn := fun _ => fun
  | [d] => { results := [.lit (.bool false)], args := [d] }
  | _ => none }
def RadicalSignWrongFalsely : Prop := radicalSignRow.holds Tryz.pinned (OpenSpec.ofChange radicalSignWrong)

/-- 'swarflaw05.RadicalZero': WHATEVER THE INPUT: true; the input reads as it did. -/
def radicalZeroSpec : ChangeSpec := { name := "radicalZero", fn := fun _ => fun
  | [d1, d2, d3] => { results := [.lit (.bool true)], args := [d1, d2, d3] }
  | _ => none }
def radicalZeroRow : OpenClaim := { program := "ytcgkmnjfkljjlaagreat", sum := "55d359febeed72c8e4b42125ebc3c768109ea976870414739ac28ac137baa3cd", func := "swarf/swarflaw05.RadicalZero", spec := "radicalZero", inPlace := ["math/bits.Add64", "math.sqrt"], unfollowed := true, recurses := true, named := ["math/bits.divideError", "math/bits.overflowError"], apart := false }
def RadicalZeroSaid : Prop := radicalZeroRow.holds Tryz.pinned (OpenSpec.ofChange radicalZeroSpec)

/-- ITS FALSE NEIGHBOUR: 'it returns false'. Refute it at one input. -/
def radicalZeroWrong : ChangeSpec := { name := "radicalZero", fn := fun _ => fun
  | [d1, d2, d3] => { results := [.lit (.bool false)], args := [d1, d2, d3] }
  | _ => none }
def RadicalZeroWrongFalsely : Prop := radicalZeroRow.holds Tryz.pinned (OpenSpec.ofChange radicalZeroWrong)

/-- 'swarflaw05.RadicalCmp': WHATEVER THE INPUT: true; the input reads as it did. -/
def radicalCmpSpec : ChangeSpec := { name := "radicalCmp", fn := fun _ => fun
  | [d1, d2, d3] => { results := [.lit (.bool true)], args := [d1, d2, d3] }
  | _ => none }
def radicalCmpRow : OpenClaim := { program := "ytcgkmnjfkljjlaagreat", sum := "55d359febeed72c8e4b42125ebc3c768109ea976870414739ac28ac137baa3cd", func := "swarf/swarflaw05.RadicalCmp", spec := "radicalCmp", inPlace := ["math/bits.Add64", "math.sqrt"], unfollowed := true, recurses := true, named := ["math/bits.divideError", "math/bits.overflowError"], apart := false }
def RadicalCmpSaid : Prop := radicalCmpRow.holds Tryz.pinned (OpenSpec.ofChange radicalCmpSpec)

/-- ITS FALSE NEIGHBOUR: 'it returns false'. Refute it at one input. -/
def radicalCmpWrong : ChangeSpec := { name := "radicalCmp", fn := fun _ => fun
  | [d1, d2, d3] => { results := [.lit (.bool false)], args := [d1, d2, d3] }
  | _ => none }
def RadicalCmpWrongFalsely : Prop := radicalCmpRow.holds Tryz.pinned (OpenSpec.ofChange radicalCmpWrong)

/-- 'swarflaw05.RadicalOrder': WHATEVER THE INPUT: true; the input reads as it did. -/
def radicalOrderSpec : ChangeSpec := { name := "radicalOrder", fn := fun _ => fun
  | [d1, d2, d3] => { results := [.lit (.bool true)], args := [d1, d2, d3] }
  | _ => none }
def radicalOrderRow : OpenClaim := { program := "ytcgkmnjfkljjlaagreat", sum := "55d359febeed72c8e4b42125ebc3c768109ea976870414739ac28ac137baa3cd", func := "swarf/swarflaw05.RadicalOrder", spec := "radicalOrder", inPlace := ["math/bits.Add64", "math.sqrt"], unfollowed := true, recurses := true, named := ["math/bits.divideError", "math/bits.overflowError"], apart := false }
def RadicalOrderSaid : Prop := radicalOrderRow.holds Tryz.pinned (OpenSpec.ofChange radicalOrderSpec)

/-- ITS FALSE NEIGHBOUR: 'it returns false'. Refute it at one input. -/
def radicalOrderWrong : ChangeSpec := { name := "radicalOrder", fn := fun _ => fun
  | [d1, d2, d3] => { results := [.lit (.bool false)], args := [d1, d2, d3] }
  | _ => none }
def RadicalOrderWrongFalsely : Prop := radicalOrderRow.holds Tryz.pinned (OpenSpec.ofChange radicalOrderWrong)

/-- 'swarflaw05.RadicalSum': WHATEVER THE INPUT: true; the input reads as it did. -/
def radicalSumSpec : ChangeSpec := { name := "radicalSum", fn := fun _ => fun
  | [d] => { results := [.lit (.bool true)], args := [d] }
  | _ => none }
def radicalSumRow : OpenClaim := { program := "ytcgkmnjfkljjlaagreat", sum := "55d359febeed72c8e4b42125ebc3c768109ea976870414739ac28ac137baa3cd", func := "swarf/swarflaw05.RadicalSum", spec := "radicalSum", inPlace := ["math/bits.Add64", "math.sqrt"], unfollowed := true, recurses := true, named := ["math/bits.divideError", "math/bits.overflowError"], apart := false }
def RadicalSumSaid : Prop := radicalSumRow.holds Tryz.pinned (OpenSpec.ofChange radicalSumSpec)

/-- ITS FALSE NEIGHBOUR: 'it returns false'. Refute it at one input. -/
def radicalSumWrong : ChangeSpec := { name := "radicalSum", fn := fun _ => fun
  | [d] => { results := [.lit (.bool false)], args := [d] }
  | _ => none }
def RadicalSumWrongFalsely : Prop := radicalSumRow.holds Tryz.pinned (OpenSpec.ofChange radicalSumWrong)

/-- 'swarflaw05.RadicalBetween': WHATEVER THE INPUT: true; the input reads as it did. -/
def radicalBetweenSpec : ChangeSpec := { name := "radicalBetween", fn := fun _ => fun
  | [d1, d2] => { results := [.lit (.bool true)], args := [d1, d2] }
  | _ => none }
def radicalBetweenRow : OpenClaim := { program := "ytcgkmnjfkljjlaagreat", sum := "55d359febeed72c8e4b42125ebc3c768109ea976870414739ac28ac137baa3cd", func := "swarf/swarflaw05.RadicalBetween", spec := "radicalBetween", inPlace := ["math/bits.Add64", "math.sqrt"], unfollowed := true, recurses := true, named := ["math/bits.divideError", "math/bits.overflowError"], apart := false }
def RadicalBetweenSaid : Prop := radicalBetweenRow.holds Tryz.pinned (OpenSpec.ofChange radicalBetweenSpec)

/-- ITS FALSE NEIGHBOUR: 'it returns false'. Refute it at one input. -/
def radicalBetweenWrong : ChangeSpec := { name := "radicalBetween", fn := fun _ => fun
  | [d1, d2] => { results := [.lit (.bool false)], args := [d1, d2] }
  | _ => none }
def RadicalBetweenWrongFalsely : Prop := radicalBetweenRow.holds Tryz.pinned (OpenSpec.ofChange radicalBetweenWrong)

/-- 'swarflaw05.RadicalSimplest': WHATEVER THE INPUT: true; the input reads as it did. -/
def radicalSimplestSpec : ChangeSpec := { name := "radicalSimplest", fn := fun _ => fun
  | [d1, d2] => { results := [.lit (.bool true)], args := [d1, d2] }
  | _ => none }
def radicalSimplestRow : OpenClaim := { program := "ytcgkmnjfkljjlaagreat", sum := "55d359febeed72c8e4b42125ebc3c768109ea976870414739ac28ac137baa3cd", func := "swarf/swarflaw05.RadicalSimplest", spec := "radicalSimplest", inPlace := ["math/bits.Add64", "math.sqrt"], unfollowed := true, recurses := true, named := ["math/bits.divideError", "math/bits.overflowError"], apart := false }
def RadicalSimplestSaid : Prop := radicalSimplestRow.holds Tryz.pinned (OpenSpec.ofChange radicalSimplestSpec)

/-- ITS FALSE NEIGHBOUR: 'it returns false'. Refute it at one input. -/
def radicalSimplestWrong : ChangeSpec := { name := "radicalSimplest", fn := fun _ => fun
  | [d1, d2] => { results := [.lit (.bool false)], args := [d1, d2] }
  | _ => none }
def RadicalSimplestWrongFalsely : Prop := radicalSimplestRow.holds Tryz.pinned (OpenSpec.ofChange radicalSimplestWrong)

/-- 'swarflaw05.RadicalSort': WHATEVER THE INPUT: true; the input reads as it did. -/
def radicalSortSpec : ChangeSpec := { name := "radicalSort", fn := fun _ => fun
  | [d] => { results := [.lit (.bool true)], args := [d] }
  | _ => none }
def radicalSortRow : OpenClaim := { program := "ytcgkmnjfkljjlaagreat", sum := "55d359febeed72c8e4b42125ebc3c768109ea976870414739ac28ac137baa3cd", func := "swarf/swarflaw05.RadicalSort", spec := "radicalSort", inPlace := ["math/bits.Add64", "math.sqrt"], unfollowed := true, recurses := true, named := ["math/bits.divideError", "math/bits.overflowError"], apart := false }
def RadicalSortSaid : Prop := radicalSortRow.holds Tryz.pinned (OpenSpec.ofChange radicalSortSpec)

/-- ITS FALSE NEIGHBOUR: 'it returns false'. Refute it at one input. -/
def radicalSortWrong : ChangeSpec := { name := "radicalSort", fn := fun _ => fun
  | [d] => { results := [.lit (.bool false)], args := [d] }
  | _ => none }
def RadicalSortWrongFalsely : Prop := radicalSortRow.holds Tryz.pinned (OpenSpec.ofChange radicalSortWrong)

/- THE SECOND FORM. 'bulk': how many values and letters a reading holds, each counted each time it is reached (what is shared counts as often as it is met; a slice's spare places count too). A statement '..UptoSaid' is the law's where the arguments, and the package variables that the reading takes, are together of bulk at most 1048576: NARROWER than '..Said'. Prove '..Said' where nothing that the law and all that it calls make is longer than what came in: it says more and counts as full. Else prove '..UptoSaid'. A law counts once. -/
mutual
def uptoBulk {H : Type} : DataW H → Nat
  | .lit (.string bytes) => bytes.length + 1
  | .lit _ => 1
  | .nil => 1
  | .ptr d => uptoBulk d + 1
  | .slice elems spare => uptoBulkAll elems + uptoBulkAll spare + 1
  | .agg parts => uptoBulkAll parts + 1
  | .iface _ d => uptoBulk d + 1
  | .map entries => uptoBulkEntries entries + 1
  | .held _ => 1
def uptoBulkAll {H : Type} : List (DataW H) → Nat
  | [] => 0
  | d :: r => uptoBulk d + uptoBulkAll r
def uptoBulkEntries {H : Type} : List (Lit × DataW H) → Nat
  | [] => 0
  | x :: r => uptoBulkEntry x + uptoBulkEntries r
def uptoBulkEntry {H : Type} : Lit × DataW H → Nat
  | (.string bytes, d) => bytes.length + uptoBulk d + 1
  | (_, d) => uptoBulk d + 1
 end
def uptoSmall : (H : Type) → List (DataW H) → Bool := fun _ ds => decide (uptoBulkAll ds ≤ 1048576)
def OpenSpec.upto (s : _root_.Go.ChangeSpec) : _root_.Go.OpenSpec := { _root_.Go.OpenSpec.ofChange s with cond := some uptoSmall }

/-- 'swarflaw03.RootField', WHERE WHAT IT READS IS OF BULK AT MOST 1048576: true; the input reads as it did. -/
def rootFieldUptoRow : OpenClaim := { program := "ytcgkmnjfkljjlaagreat", sum := "55d359febeed72c8e4b42125ebc3c768109ea976870414739ac28ac137baa3cd", func := "swarf/swarflaw03.RootField", spec := "rootField", inPlace := ["math/bits.Add64"], unfollowed := true, recurses := true, named := ["math/bits.divideError", "math/bits.overflowError"], apart := false, narrowed := true }
def RootFieldUptoSaid : Prop := rootFieldUptoRow.holds Tryz.pinned (OpenSpec.upto rootFieldSpec)

/-- 'swarflaw05.RadicalSign', WHERE WHAT IT READS IS OF BULK AT MOST 1048576: true; the input reads as it did. -/
def radicalSignUptoRow : OpenClaim := { program := "ytcgkmnjfkljjlaagreat", sum := "55d359febeed72c8e4b42125ebc3c768109ea976870414739ac28ac137baa3cd", func := "swarf/swarflaw05.RadicalSign", spec := "radicalSign", inPlace := ["math/bits.Add64", "math.sqrt"], unfollowed := true, recurses := true, named := ["math/bits.divideError", "math/bits.overflowError"], apart := false, narrowed := true }
def RadicalSignUptoSaid : Prop := radicalSignUptoRow.holds Tryz.pinned (OpenSpec.upto radicalSignSpec)

/-- 'swarflaw05.RadicalZero', WHERE WHAT IT READS IS OF BULK AT MOST 1048576: true; the input reads as it did. -/
def radicalZeroUptoRow : OpenClaim := { program := "ytcgkmnjfkljjlaagreat", sum := "55d359febeed72c8e4b42125ebc3c768109ea976870414739ac28ac137baa3cd", func := "swarf/swarflaw05.RadicalZero", spec := "radicalZero", inPlace := ["math/bits.Add64", "math.sqrt"], unfollowed := true, recurses := true, named := ["math/bits.divideError", "math/bits.overflowError"], apart := false, narrowed := true }
def RadicalZeroUptoSaid : Prop := radicalZeroUptoRow.holds Tryz.pinned (OpenSpec.upto radicalZeroSpec)

/-- 'swarflaw05.RadicalCmp', WHERE WHAT IT READS IS OF BULK AT MOST 1048576: true; the input reads as it did. -/
def radicalCmpUptoRow : OpenClaim := { program := "ytcgkmnjfkljjlaagreat", sum := "55d359febeed72c8e4b42125ebc3c768109ea976870414739ac28ac137baa3cd", func := "swarf/swarflaw05.RadicalCmp", spec := "radicalCmp", inPlace := ["math/bits.Add64", "math.sqrt"], unfollowed := true, recurses := true, named := ["math/bits.divideError", "math/bits.overflowError"], apart := false, narrowed := true }
def RadicalCmpUptoSaid : Prop := radicalCmpUptoRow.holds Tryz.pinned (OpenSpec.upto radicalCmpSpec)

/-- 'swarflaw05.RadicalOrder', WHERE WHAT IT READS IS OF BULK AT MOST 1048576: true; the input reads as it did. -/
def radicalOrderUptoRow : OpenClaim := { program := "ytcgkmnjfkljjlaagreat", sum := "55d359febeed72c8e4b42125ebc3c768109ea976870414739ac28ac137baa3cd", func := "swarf/swarflaw05.RadicalOrder", spec := "radicalOrder", inPlace := ["math/bits.Add64", "math.sqrt"], unfollowed := true, recurses := true, named := ["math/bits.divideError", "math/bits.overflowError"], apart := false, narrowed := true }
def RadicalOrderUptoSaid : Prop := radicalOrderUptoRow.holds Tryz.pinned (OpenSpec.upto radicalOrderSpec)

/-- 'swarflaw05.RadicalSum', WHERE WHAT IT READS IS OF BULK AT MOST 1048576: true; the input reads as it did. -/
def radicalSumUptoRow : OpenClaim := { program := "ytcgkmnjfkljjlaagreat", sum := "55d359febeed72c8e4b42125ebc3c768109ea976870414739ac28ac137baa3cd", func := "swarf/swarflaw05.RadicalSum", spec := "radicalSum", inPlace := ["math/bits.Add64", "math.sqrt"], unfollowed := true, recurses := true, named := ["math/bits.divideError", "math/bits.overflowError"], apart := false, narrowed := true }
def RadicalSumUptoSaid : Prop := radicalSumUptoRow.holds Tryz.pinned (OpenSpec.upto radicalSumSpec)

/-- 'swarflaw05.RadicalBetween', WHERE WHAT IT READS IS OF BULK AT MOST 1048576: true; the input reads as it did. -/
def radicalBetweenUptoRow : OpenClaim := { program := "ytcgkmnjfkljjlaagreat", sum := "55d359febeed72c8e4b42125ebc3c768109ea976870414739ac28ac137baa3cd", func := "swarf/swarflaw05.RadicalBetween", spec := "radicalBetween", inPlace := ["math/bits.Add64", "math.sqrt"], unfollowed := true, recurses := true, named := ["math/bits.divideError", "math/bits.overflowError"], apart := false, narrowed := true }
def RadicalBetweenUptoSaid : Prop := radicalBetweenUptoRow.holds Tryz.pinned (OpenSpec.upto radicalBetweenSpec)

/-- 'swarflaw05.RadicalSimplest', WHERE WHAT IT READS IS OF BULK AT MOST 1048576: true; the input reads as it did. -/
def radicalSimplestUptoRow : OpenClaim := { program := "ytcgkmnjfkljjlaagreat", sum := "55d359febeed72c8e4b42125ebc3c768109ea976870414739ac28ac137baa3cd", func := "swarf/swarflaw05.RadicalSimplest", spec := "radicalSimplest", inPlace := ["math/bits.Add64", "math.sqrt"], unfollowed := true, recurses := true, named := ["math/bits.divideError", "math/bits.overflowError"], apart := false, narrowed := true }
def RadicalSimplestUptoSaid : Prop := radicalSimplestUptoRow.holds Tryz.pinned (OpenSpec.upto radicalSimplestSpec)

/-- 'swarflaw05.RadicalSort', WHERE WHAT IT READS IS OF BULK AT MOST 1048576: true; the input reads as it did. -/
def radicalSortUptoRow : OpenClaim := { program := "ytcgkmnjfkljjlaagreat", sum := "55d359febeed72c8e4b42125ebc3c768109ea976870414739ac28ac137baa3cd", func := "swarf/swarflaw05.RadicalSort", spec := "radicalSort", inPlace := ["math/bits.Add64", "math.sqrt"], unfollowed := true, recurses := true, named := ["math/bits.divideError", "math/bits.overflowError"], apart := false, narrowed := true }
def RadicalSortUptoSaid : Prop := radicalSortUptoRow.holds Tryz.pinned (OpenSpec.upto radicalSortSpec)

end Rows
end Go.Proofs.YtcgkmnjfkljjlaaGreat
