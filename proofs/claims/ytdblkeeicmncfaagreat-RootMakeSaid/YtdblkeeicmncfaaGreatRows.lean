/-
  No cell of these rows narrows 'for every input' (looked for: loops, veiled, ifaces, maps, wideKeys, modest, calm, conditions, laid).
  DERIVED. THE GIVEN ROWS OF THIS SEAT. 9 by the template 'for every input the law returns true; each argument reads behind the call as it read before'; 0 by the template 'total and deterministic' (their statements: YtdblkeeicmncfaaGreatTotals.lean).
  GIVEN WITH THE SEED: the statements are not yours to turn. If you find one false, say at which input.
  Laid BY PROGRAM, IN A SANDBOX (cutbox-rows.mjs): the forced cells as the released guide's own fill.sh prints them over the translation 1a95c6f632ce0894… (all of the seat's roots in one cut). By AI agents, Wed Nov 11 2026. No macro, syntax, notation, axiom, sorry.
-/
import Derived.Test.YtdblkeeicmncfaaGreatChecked
import GoSem.Claim
import GoSem.ClaimJoined
import GoSem.ClaimMapViews
import Derived.JoinedTies
import Derived.KernelRfl
namespace Go.Proofs.YtdblkeeicmncfaaGreat
/- THE CELL 'sum', in the pinned program and in every row, IS THE sha256 OF THE DUMP (.gsa) THAT YtdblkeeicmncfaaGreatProg.lean LOADS. Nothing in Lean hashes anything: it is a label: what it is worth is what the hold of that sum in a sandbox is worth. -/
noncomputable def Tryz.pinned : Pinned := { name := "ytdblkeeicmncfaagreat", sum := "1a95c6f632ce0894693d2c04338c7d83564ca71772dadb4d3e69377f83413167", checked := Tryz.checked }
namespace Rows
def none {H : Type} : Left H := { results := [], args := [] }

/-- 'swarflaw03.RootMake': WHATEVER THE INPUT: true; the input reads as it did. -/
def rootMakeSpec : ChangeSpec := { name := "rootMake", fn := fun _ => fun
  | [d1, d2, d3] => { results := [.lit (.bool true)], args := [d1, d2, d3] }
  | _ => none }
def rootMakeRow : OpenClaim := { program := "ytdblkeeicmncfaagreat", sum := "1a95c6f632ce0894693d2c04338c7d83564ca71772dadb4d3e69377f83413167", func := "swarf/swarflaw03.RootMake", spec := "rootMake", inPlace := ["math/bits.Add64"], unfollowed := true, recurses := true, named := ["math/bits.divideError", "math/bits.overflowError"], apart := false }
def RootMakeSaid : Prop := rootMakeRow.holds Tryz.pinned (OpenSpec.ofChange rootMakeSpec)

/-- ITS FALSE NEIGHBOUR: 'it returns false'. Refute it at one input. -/
def rootMakeWrong : ChangeSpec := { name := "rootMake", fn := fun _ => fun
  | [d1, d2, d3] => { results := [.lit (.bool false)], args := [d1, d2, d3] }
  | _ => none }
def RootMakeWrongFalsely : Prop := rootMakeRow.holds Tryz.pinned (OpenSpec.ofChange rootMakeWrong)

/-- 'swarflaw03.RootValid': WHATEVER THE INPUT: true; the input reads as it did. -/
def rootValidSpec : ChangeSpec := { name := "rootValid", fn := fun _ => fun
  | [d] => { results := [.lit (.bool true)], args := [d] }
  | _ => none }
def rootValidRow : OpenClaim := { program := "ytdblkeeicmncfaagreat", sum := "1a95c6f632ce0894693d2c04338c7d83564ca71772dadb4d3e69377f83413167", func := "swarf/swarflaw03.RootValid", spec := "rootValid", inPlace := ["math/bits.Add64"], unfollowed := true, recurses := true, named := ["math/bits.divideError", "math/bits.overflowError"], apart := false }
def RootValidSaid : Prop := rootValidRow.holds Tryz.pinned (OpenSpec.ofChange rootValidSpec)

/-- ITS FALSE NEIGHBOUR: 'it returns false'. Refute it at one input. -/
def rootValidWrong : ChangeSpec := { name := "rootValid", fn := fun _ => fun
  | [d] => { results := [.lit (.bool false)], args := [d] }
  | _ => none }
def RootValidWrongFalsely : Prop := rootValidRow.holds Tryz.pinned (OpenSpec.ofChange rootValidWrong)

/-- 'swarflaw03.RootSign': WHATEVER THE INPUT: true; the input reads as it did. -/
def rootSignSpec : ChangeSpec := { name := "rootSign", fn := fun _ => fun
  | [d1, d2] => { results := [.lit (.bool true)], args := [d1, d2] }
  | _ => none }
def rootSignRow : OpenClaim := { program := "ytdblkeeicmncfaagreat", sum := "1a95c6f632ce0894693d2c04338c7d83564ca71772dadb4d3e69377f83413167", func := "swarf/swarflaw03.RootSign", spec := "rootSign", inPlace := ["math/bits.Add64"], unfollowed := true, recurses := true, named := ["math/bits.divideError", "math/bits.overflowError"], apart := false }
def RootSignSaid : Prop := rootSignRow.holds Tryz.pinned (OpenSpec.ofChange rootSignSpec)

/-- ITS FALSE NEIGHBOUR: 'it returns false'. Refute it at one input. -/
def rootSignWrong : ChangeSpec := { name := "rootSign", fn := fun _ => fun
  | [d1, d2] => { results := [.lit (.bool false)], args := [d1, d2] }
  | _ => none }
def RootSignWrongFalsely : Prop := rootSignRow.holds Tryz.pinned (OpenSpec.ofChange rootSignWrong)

/-- 'swarflaw03.RootSum': WHATEVER THE INPUT: true; the input reads as it did. -/
def rootSumSpec : ChangeSpec := { name := "rootSum", fn := fun _ => fun
  | [d1, d2] => { results := [.lit (.bool true)], args := [d1, d2] }
  | _ => none }
def rootSumRow : OpenClaim := { program := "ytdblkeeicmncfaagreat", sum := "1a95c6f632ce0894693d2c04338c7d83564ca71772dadb4d3e69377f83413167", func := "swarf/swarflaw03.RootSum", spec := "rootSum", inPlace := ["math/bits.Add64"], unfollowed := true, recurses := true, named := ["math/bits.divideError", "math/bits.overflowError"], apart := false }
def RootSumSaid : Prop := rootSumRow.holds Tryz.pinned (OpenSpec.ofChange rootSumSpec)

/-- ITS FALSE NEIGHBOUR: 'it returns false'. Refute it at one input. -/
def rootSumWrong : ChangeSpec := { name := "rootSum", fn := fun _ => fun
  | [d1, d2] => { results := [.lit (.bool false)], args := [d1, d2] }
  | _ => none }
def RootSumWrongFalsely : Prop := rootSumRow.holds Tryz.pinned (OpenSpec.ofChange rootSumWrong)

/-- 'swarflaw03.RootMul': WHATEVER THE INPUT: true; the input reads as it did. -/
def rootMulSpec : ChangeSpec := { name := "rootMul", fn := fun _ => fun
  | [d1, d2] => { results := [.lit (.bool true)], args := [d1, d2] }
  | _ => none }
def rootMulRow : OpenClaim := { program := "ytdblkeeicmncfaagreat", sum := "1a95c6f632ce0894693d2c04338c7d83564ca71772dadb4d3e69377f83413167", func := "swarf/swarflaw03.RootMul", spec := "rootMul", inPlace := ["math/bits.Add64"], unfollowed := true, recurses := true, named := ["math/bits.divideError", "math/bits.overflowError"], apart := false }
def RootMulSaid : Prop := rootMulRow.holds Tryz.pinned (OpenSpec.ofChange rootMulSpec)

/-- ITS FALSE NEIGHBOUR: 'it returns false'. Refute it at one input. -/
def rootMulWrong : ChangeSpec := { name := "rootMul", fn := fun _ => fun
  | [d1, d2] => { results := [.lit (.bool false)], args := [d1, d2] }
  | _ => none }
def RootMulWrongFalsely : Prop := rootMulRow.holds Tryz.pinned (OpenSpec.ofChange rootMulWrong)

/-- 'swarflaw03.RootInv': WHATEVER THE INPUT: true; the input reads as it did. -/
def rootInvSpec : ChangeSpec := { name := "rootInv", fn := fun _ => fun
  | [d] => { results := [.lit (.bool true)], args := [d] }
  | _ => none }
def rootInvRow : OpenClaim := { program := "ytdblkeeicmncfaagreat", sum := "1a95c6f632ce0894693d2c04338c7d83564ca71772dadb4d3e69377f83413167", func := "swarf/swarflaw03.RootInv", spec := "rootInv", inPlace := ["math/bits.Add64"], unfollowed := true, recurses := true, named := ["math/bits.divideError", "math/bits.overflowError"], apart := false }
def RootInvSaid : Prop := rootInvRow.holds Tryz.pinned (OpenSpec.ofChange rootInvSpec)

/-- ITS FALSE NEIGHBOUR: 'it returns false'. Refute it at one input. -/
def rootInvWrong : ChangeSpec := { name := "rootInv", fn := fun _ => fun
  | [d] => { results := [.lit (.bool false)], args := [d] }
  | _ => none }
def RootInvWrongFalsely : Prop := rootInvRow.holds Tryz.pinned (OpenSpec.ofChange rootInvWrong)

/-- 'swarflaw03.RootFloor': WHATEVER THE INPUT: true; the input reads as it did. -/
def rootFloorSpec : ChangeSpec := { name := "rootFloor", fn := fun _ => fun
  | [d] => { results := [.lit (.bool true)], args := [d] }
  | _ => none }
def rootFloorRow : OpenClaim := { program := "ytdblkeeicmncfaagreat", sum := "1a95c6f632ce0894693d2c04338c7d83564ca71772dadb4d3e69377f83413167", func := "swarf/swarflaw03.RootFloor", spec := "rootFloor", inPlace := ["math/bits.Add64"], unfollowed := true, recurses := true, named := ["math/bits.divideError", "math/bits.overflowError"], apart := false }
def RootFloorSaid : Prop := rootFloorRow.holds Tryz.pinned (OpenSpec.ofChange rootFloorSpec)

/-- ITS FALSE NEIGHBOUR: 'it returns false'. Refute it at one input. -/
def rootFloorWrong : ChangeSpec := { name := "rootFloor", fn := fun _ => fun
  | [d] => { results := [.lit (.bool false)], args := [d] }
  | _ => none }
def RootFloorWrongFalsely : Prop := rootFloorRow.holds Tryz.pinned (OpenSpec.ofChange rootFloorWrong)

/-- 'swarflaw03.RootEnclose': WHATEVER THE INPUT: true; the input reads as it did. -/
def rootEncloseSpec : ChangeSpec := { name := "rootEnclose", fn := fun _ => fun
  | [d1, d2] => { results := [.lit (.bool true)], args := [d1, d2] }
  | _ => none }
def rootEncloseRow : OpenClaim := { program := "ytdblkeeicmncfaagreat", sum := "1a95c6f632ce0894693d2c04338c7d83564ca71772dadb4d3e69377f83413167", func := "swarf/swarflaw03.RootEnclose", spec := "rootEnclose", inPlace := ["math/bits.Add64"], unfollowed := true, recurses := true, named := ["math/bits.divideError", "math/bits.overflowError"], apart := false }
def RootEncloseSaid : Prop := rootEncloseRow.holds Tryz.pinned (OpenSpec.ofChange rootEncloseSpec)

/-- ITS FALSE NEIGHBOUR: 'it returns false'. Refute it at one input. -/
def rootEncloseWrong : ChangeSpec := { name := "rootEnclose", fn := fun _ => fun
  | [d1, d2] => { results := [.lit (.bool false)], args := [d1, d2] }
  | _ => none }
def RootEncloseWrongFalsely : Prop := rootEncloseRow.holds Tryz.pinned (OpenSpec.ofChange rootEncloseWrong)

/-- 'swarflaw03.RootField': WHATEVER THE INPUT: true; the input reads as it did. -/
def rootFieldSpec : ChangeSpec := { name := "rootField", fn := fun _ => fun
  | [d] => { results := [.lit (.bool true)], args := [d] }
  | _ => none }
def rootFieldRow : OpenClaim := { program := "ytdblkeeicmncfaagreat", sum := "1a95c6f632ce0894693d2c04338c7d83564ca71772dadb4d3e69377f83413167", func := "swarf/swarflaw03.RootField", spec := "rootField", inPlace := ["math/bits.Add64"], unfollowed := true, recurses := true, named := ["math/bits.divideError", "math/bits.overflowError"], apart := false }
def RootFieldSaid : Prop := rootFieldRow.holds Tryz.pinned (OpenSpec.ofChange rootFieldSpec)

/-- ITS FALSE NEIGHBOUR: 'it returns false'. Refute it at one input. -/
def rootFieldWrong : ChangeSpec := { name := "rootField", fn := fun _ => fun
  | [d] => { results := [.lit (.bool false)], args := [d] }
  | _ => none }
def RootFieldWrongFalsely : Prop := rootFieldRow.holds Tryz.pinned (OpenSpec.ofChange rootFieldWrong)

/- THE SECOND FORM. 'bulk': how many values and letters a reading holds, each counted each time it is reached (what is shared counts as often as it is met; a slice's spare places count too). A statement '..UptoSaid' is the law's where the arguments, and the package variables that the reading takes, are together of bulk at most 1048576: NARROWER than '..Said'. Prove '..Said' where nothing that the law and all that it calls make is longer than what came in: it says more and counts as full. Else prove '..UptoSaid'. A law counts once. -/
mutual
def uptoBulk {H : Type} : DataW H → Nat
  | .lit (.string bytes) => bytes.length + 1
  | .lit _ => 1
  | .nil => 1
  | .ptr d => uptoBulk d + 1
  | .slice elems spare => uptoBulkAll elems + uptoBulkAll spare + 1
  | .agg parts => uptoBulkAll parts + 1
  | .iface _ d => uptoBulk d + 1
  | .map entries => uptoBulkEntries entries + 1
  | .held _ => 1
def uptoBulkAll {H : Type} : List (DataW H) → Nat
  | [] => 0
  | d :: r => uptoBulk d + uptoBulkAll r
def uptoBulkEntries {H : Type} : List (Lit × DataW H) → Nat
  | [] => 0
  | x :: r => uptoBulkEntry x + uptoBulkEntries r
def uptoBulkEntry {H : Type} : Lit × DataW H → Nat
  | (.string bytes, d) => bytes.length + uptoBulk d + 1
  | (_, d) => uptoBulk d + 1
 end
def uptoSmall : (H : Type) → List (DataW H) → Bool := fun _ ds => decide (uptoBulkAll ds ≤ 1048576)
def OpenSpec.upto (s : _root_.Go.ChangeSpec) : _root_.Go.OpenSpec := { _root_.Go.OpenSpec.ofChange s with cond := some uptoSmall }

/-- 'swarflaw03.RootMake', WHERE WHAT IT READS IS OF BULK AT MOST 1048576: true; the input reads as it did. -/
def rootMakeUptoRow : OpenClaim := { program := "ytdblkeeicmncfaagreat", sum := "1a95c6f632ce0894693d2c04338c7d83564ca71772dadb4d3e69377f83413167", func := "swarf/swarflaw03.RootMake", spec := "rootMake", inPlace := ["math/bits.Add64"], unfollowed := true, recurses := true, named := ["math/bits.divideError", "math/bits.overflowError"], apart := false, narrowed := true }
def RootMakeUptoSaid : Prop := rootMakeUptoRow.holds Tryz.pinned (OpenSpec.upto rootMakeSpec)

/-- 'swarflaw03.RootValid', WHERE WHAT IT READS IS OF BULK AT MOST 1048576: true; the input reads as it did. -/
def rootValidUptoRow : OpenClaim := { program := "ytdblkeeicmncfaagreat", sum := "1a95c6f632ce0894693d2c04338c7d83564ca71772dadb4d3e69377f83413167", func := "swarf/swarflaw03.RootValid", spec := "rootValid", inPlace := ["math/bits.Add64"], unfollowed := true, recurses := true, named := ["math/bits.divideError", "math/bits.overflowError"], apart := false, narrowed := true }
def RootValidUptoSaid : Prop := rootValidUptoRow.holds Tryz.pinned (OpenSpec.upto rootValidSpec)

/-- 'swarflaw03.RootSign', WHERE WHAT IT READS IS OF BULK AT MOST 1048576: true; the input reads as it did. -/
def rootSignUptoRow : OpenClaim := { program := "ytdblkeeicmncfaagreat", sum := "1a95c6f632ce0894693d2c04338c7d83564ca71772dadb4d3e69377f83413167", func := "swarf/swarflaw03.RootSign", spec := "rootSign", inPlace := ["math/bits.Add64"], unfollowed := true, recurses := true, named := ["math/bits.divideError", "math/bits.overflowError"], apart := false, narrowed := true }
def RootSignUptoSaid : Prop := rootSignUptoRow.holds Tryz.pinned (OpenSpec.upto rootSignSpec)

/-- 'swarflaw03.RootSum', WHERE WHAT IT READS IS OF BULK AT MOST 1048576: true; the input reads as it did. -/
def rootSumUptoRow : OpenClaim := { program := "ytdblkeeicmncfaagreat", sum := "1a95c6f632ce0894693d2c04338c7d83564ca71772dadb4d3e69377f83413167", func := "swarf/swarflaw03.RootSum", spec := "rootSum", inPlace := ["math/bits.Add64"], unfollowed := true, recurses := true, named := ["math/bits.divideError", "math/bits.overflowError"], apart := false, narrowed := true }
def RootSumUptoSaid : Prop := rootSumUptoRow.holds Tryz.pinned (OpenSpec.upto rootSumSpec)

/-- 'swarflaw03.RootMul', WHERE WHAT IT READS IS OF BULK AT MOST 1048576: true; the input reads as it did. -/
def rootMulUptoRow : OpenClaim := { program := "ytdblkeeicmncfaagreat", sum := "1a95c6f632ce0894693d2c04338c7d83564ca71772dadb4d3e69377f83413167", func := "swarf/swarflaw03.RootMul", spec := "rootMul", inPlace := ["math/bits.Add64"], unfollowed := true, recurses := true, named := ["math/bits.divideError", "math/bits.overflowError"], apart := false, narrowed := true }
def RootMulUptoSaid : Prop := rootMulUptoRow.holds Tryz.pinned (OpenSpec.upto rootMulSpec)

/-- 'swarflaw03.RootInv', WHERE WHAT IT READS IS OF BULK AT MOST 1048576: true; the input reads as it did. -/
def rootInvUptoRow : OpenClaim := { program := "ytdblkeeicmncfaagreat", sum := "1a95c6f632ce0894693d2c04338c7d83564ca71772dadb4d3e69377f83413167", func := "swarf/swarflaw03.RootInv", spec := "rootInv", inPlace := ["math/bits.Add64"], unfollowed := true, recurses := true, named := ["math/bits.divideError", "math/bits.overflowError"], apart := false, narrowed := true }
def RootInvUptoSaid : Prop := rootInvUptoRow.holds Tryz.pinned (OpenSpec.upto rootInvSpec)

/-- 'swarflaw03.RootFloor', WHERE WHAT IT READS IS OF BULK AT MOST 1048576: true; the input reads as it did. -/
def rootFloorUptoRow : OpenClaim := { program := "ytdblkeeicmncfaagreat", sum := "1a95c6f632ce0894693d2c04338c7d83564ca71772dadb4d3e69377f83413167", func := "swarf/swarflaw03.RootFloor", spec := "rootFloor", inPlace := ["math/bits.Add64"], unfollowed := true, recurses := true, named := ["math/bits.divideError", "math/bits.overflowError"], apart := false, narrowed := true }
def RootFloorUptoSaid : Prop := rootFloorUptoRow.holds Tryz.pinned (OpenSpec.upto rootFloorSpec)

/-- 'swarflaw03.RootEnclose', WHERE WHAT IT READS IS OF BULK AT MOST 1048576: true; the input reads as it did. -/
def rootEncloseUptoRow : OpenClaim := { program := "ytdblkeeicmncfaagreat", sum := "1a95c6f632ce0894693d2c04338c7d83564ca71772dadb4d3e69377f83413167", func := "swarf/swarflaw03.RootEnclose", spec := "rootEnclose", inPlace := ["math/bits.Add64"], unfollowed := true, recurses := true, named := ["math/bits.divideError", "math/bits.overflowError"], apart := false, narrowed := true }
def RootEncloseUptoSaid : Prop := rootEncloseUptoRow.holds Tryz.pinned (OpenSpec.upto rootEncloseSpec)

/-- 'swarflaw03.RootField', WHERE WHAT IT READS IS OF BULK AT MOST 1048576: true; the input reads as it did. -/
def rootFieldUptoRow : OpenClaim := { program := "ytdblkeeicmncfaagreat", sum := "1a95c6f632ce0894693d2c04338c7d83564ca71772dadb4d3e69377f83413167", func := "swarf/swarflaw03.RootField", spec := "rootField", inPlace := ["math/bits.Add64"], unfollowed := true, recurses := true, named := ["math/bits.divideError", "math/bits.overflowError"], apart := false, narrowed := true }
def RootFieldUptoSaid : Prop := rootFieldUptoRow.holds Tryz.pinned (OpenSpec.upto rootFieldSpec)

end Rows
end Go.Proofs.YtdblkeeicmncfaaGreat
