/-
  No cell of these rows narrows 'for every input' (looked for: loops, veiled, ifaces, maps, wideKeys, modest, calm, conditions, laid).
  DERIVED. THE GIVEN ROWS OF THIS SEAT. 11 by the template 'for every input the law returns true; each argument reads behind the call as it read before'; 0 by the template 'total and deterministic' (their statements: YtabpkohcimiceaaTotals.lean).
  GIVEN WITH THE SEED: the statements are not yours to turn. If you find one false, say at which input.
  Laid BY PROGRAM, IN A SANDBOX (cutbox-rows.mjs): the forced cells as the released guide's own fill.sh prints them over the translation aa30407144f03c1f… (all of the seat's roots in one cut). By AI agents, Wed Nov 11 2026. No macro, syntax, notation, axiom, sorry.
-/
import Derived.Test.YtabpkohcimiceaaChecked
import GoSem.Claim
import GoSem.ClaimJoined
import GoSem.ClaimMapViews
import Derived.JoinedTies
import Derived.KernelRfl
namespace Go.Proofs.Ytabpkohcimiceaa
/- THE CELL 'sum', in the pinned program and in every row, IS THE sha256 OF THE DUMP (.gsa) THAT YtabpkohcimiceaaProg.lean LOADS. Nothing in Lean hashes anything: it is a label: what it is worth is what the hold of that sum in a sandbox is worth. -/
noncomputable def Try.pinned : Pinned := { name := "ytabpkohcimiceaa", sum := "aa30407144f03c1fc1d9f60886ba741b937daa5a210f6e5362ac54d8bc7b9df2", checked := Try.checked }
namespace Rows
def none {H : Type} : Left H := { results := [], args := [] }

/-- 'pawllaw.Mixes': WHATEVER THE INPUT: true; the input reads as it did. -/
def mixesSpec : ChangeSpec := { name := "mixes", fn := fun _ => fun
  | [d1, d2] => { results := [.lit (.bool true)], args := [d1, d2] }
  | _ => none }
def mixesRow : OpenClaim := { program := "ytabpkohcimiceaa", sum := "aa30407144f03c1fc1d9f60886ba741b937daa5a210f6e5362ac54d8bc7b9df2", func := "pawl/pawllaw.Mixes", spec := "mixes", apart := false }
def MixesSaid : Prop := mixesRow.holds Try.pinned (OpenSpec.ofChange mixesSpec)

/-- ITS FALSE NEIGHBOUR: 'it returns false'. Refute it at one input. -/
def mixesWrong : ChangeSpec := { name := "mixes", fn := fun _ => fun
  | [d1, d2] => { results := [.lit (.bool false)], args := [d1, d2] }
  | _ => none }
def MixesWrongFalsely : Prop := mixesRow.holds Try.pinned (OpenSpec.ofChange mixesWrong)

/-- 'pawllaw.Powers': WHATEVER THE INPUT: true; the input reads as it did. -/
def powersSpec : ChangeSpec := { name := "powers", fn := fun _ => fun
  | [d1, d2] => { results := [.lit (.bool true)], args := [d1, d2] }
  | _ => none }
def powersRow : OpenClaim := { program := "ytabpkohcimiceaa", sum := "aa30407144f03c1fc1d9f60886ba741b937daa5a210f6e5362ac54d8bc7b9df2", func := "pawl/pawllaw.Powers", spec := "powers", recurses := true, apart := false }
def PowersSaid : Prop := powersRow.holds Try.pinned (OpenSpec.ofChange powersSpec)

/-- ITS FALSE NEIGHBOUR: 'it returns false'. Refute it at one input. -/
def powersWrong : ChangeSpec := { name := "powers", fn := fun _ => fun
  | [d1, d2] => { results := [.lit (.bool false)], args := [d1, d2] }
  | _ => none }
def PowersWrongFalsely : Prop := powersRow.holds Try.pinned (OpenSpec.ofChange powersWrong)

/-- 'pawllaw.Seals': WHATEVER THE INPUT: true; the input reads as it did. -/
def sealsSpec : ChangeSpec := { name := "seals", fn := fun _ => fun
  | [d1, d2, d3] => { results := [.lit (.bool true)], args := [d1, d2, d3] }
  | _ => none }
def sealsRow : OpenClaim := { program := "ytabpkohcimiceaa", sum := "aa30407144f03c1fc1d9f60886ba741b937daa5a210f6e5362ac54d8bc7b9df2", func := "pawl/pawllaw.Seals", spec := "seals", apart := false }
def SealsSaid : Prop := sealsRow.holds Try.pinned (OpenSpec.ofChange sealsSpec)

/-- ITS FALSE NEIGHBOUR: 'it returns false'. Refute it at one input. -/
def sealsWrong : ChangeSpec := { name := "seals", fn := fun _ => fun
  | [d1, d2, d3] => { results := [.lit (.bool false)], args := [d1, d2, d3] }
  | _ => none }
def SealsWrongFalsely : Prop := sealsRow.holds Try.pinned (OpenSpec.ofChange sealsWrong)

/-- 'pawlkeep.Agree': WHATEVER THE INPUT: true; the input reads as it did. -/
def agreeSpec : ChangeSpec := { name := "agree", fn := fun _ => fun
  | [d1, d2] => { results := [.lit (.bool true)], args := [d1, d2] }
  | _ => none }
def agreeRow : OpenClaim := { program := "ytabpkohcimiceaa", sum := "aa30407144f03c1fc1d9f60886ba741b937daa5a210f6e5362ac54d8bc7b9df2", func := "pawl/pawlkeep.Agree", spec := "agree", apart := false }
def AgreeSaid : Prop := agreeRow.holds Try.pinned (OpenSpec.ofChange agreeSpec)

/-- ITS FALSE NEIGHBOUR: 'it returns false'. Refute it at one input. -/
def agreeWrong : ChangeSpec := { name := "agree", fn := fun _ => fun
  | [d1, d2] => { results := [.lit (.bool false)], args := [d1, d2] }
  | _ => none }
def AgreeWrongFalsely : Prop := agreeRow.holds Try.pinned (OpenSpec.ofChange agreeWrong)

/-- 'pawlkeep.Opens': WHATEVER THE INPUT: true; the input reads as it did. -/
def opensSpec : ChangeSpec := { name := "opens", fn := fun _ => fun
  | [d1, d2, d3, d4, d5] => { results := [.lit (.bool true)], args := [d1, d2, d3, d4, d5] }
  | _ => none }
def opensRow : OpenClaim := { program := "ytabpkohcimiceaa", sum := "aa30407144f03c1fc1d9f60886ba741b937daa5a210f6e5362ac54d8bc7b9df2", func := "pawl/pawlkeep.Opens", spec := "opens", apart := false }
def OpensSaid : Prop := opensRow.holds Try.pinned (OpenSpec.ofChange opensSpec)

/-- ITS FALSE NEIGHBOUR: 'it returns false'. Refute it at one input. -/
def opensWrong : ChangeSpec := { name := "opens", fn := fun _ => fun
  | [d1, d2, d3, d4, d5] => { results := [.lit (.bool false)], args := [d1, d2, d3, d4, d5] }
  | _ => none }
def OpensWrongFalsely : Prop := opensRow.holds Try.pinned (OpenSpec.ofChange opensWrong)

/-- 'pawllaw.Replays': WHATEVER THE INPUT: true; the input reads as it did. -/
def replaysSpec : ChangeSpec := { name := "replays", fn := fun _ => fun
  | [d1, d2, d3, d4] => { results := [.lit (.bool true)], args := [d1, d2, d3, d4] }
  | _ => none }
def replaysRow : OpenClaim := { program := "ytabpkohcimiceaa", sum := "aa30407144f03c1fc1d9f60886ba741b937daa5a210f6e5362ac54d8bc7b9df2", func := "pawl/pawllaw.Replays", spec := "replays", apart := false }
def ReplaysSaid : Prop := replaysRow.holds Try.pinned (OpenSpec.ofChange replaysSpec)

/-- ITS FALSE NEIGHBOUR: 'it returns false'. Refute it at one input. -/
def replaysWrong : ChangeSpec := { name := "replays", fn := fun _ => fun
  | [d1, d2, d3, d4] => { results := [.lit (.bool false)], args := [d1, d2, d3, d4] }
  | _ => none }
def ReplaysWrongFalsely : Prop := replaysRow.holds Try.pinned (OpenSpec.ofChange replaysWrong)

/-- 'pawllaw.Creates': WHATEVER THE INPUT: true; the input reads as it did. -/
def createsSpec : ChangeSpec := { name := "creates", fn := fun _ => fun
  | [d1, d2, d3, d4, d5, d6] => { results := [.lit (.bool true)], args := [d1, d2, d3, d4, d5, d6] }
  | _ => none }
def createsRow : OpenClaim := { program := "ytabpkohcimiceaa", sum := "aa30407144f03c1fc1d9f60886ba741b937daa5a210f6e5362ac54d8bc7b9df2", func := "pawl/pawllaw.Creates", spec := "creates", recurses := true, apart := false }
def CreatesSaid : Prop := createsRow.holds Try.pinned (OpenSpec.ofChange createsSpec)

/-- ITS FALSE NEIGHBOUR: 'it returns false'. Refute it at one input. -/
def createsWrong : ChangeSpec := { name := "creates", fn := fun _ => fun
  | [d1, d2, d3, d4, d5, d6] => { results := [.lit (.bool false)], args := [d1, d2, d3, d4, d5, d6] }
  | _ => none }
def CreatesWrongFalsely : Prop := createsRow.holds Try.pinned (OpenSpec.ofChange createsWrong)

/-- 'pawllaw.Looks': WHATEVER THE INPUT: true; the input reads as it did. -/
def looksSpec : ChangeSpec := { name := "looks", fn := fun _ => fun
  | [d1, d2, d3] => { results := [.lit (.bool true)], args := [d1, d2, d3] }
  | _ => none }
def looksRow : OpenClaim := { program := "ytabpkohcimiceaa", sum := "aa30407144f03c1fc1d9f60886ba741b937daa5a210f6e5362ac54d8bc7b9df2", func := "pawl/pawllaw.Looks", spec := "looks", recurses := true, apart := false }
def LooksSaid : Prop := looksRow.holds Try.pinned (OpenSpec.ofChange looksSpec)

/-- ITS FALSE NEIGHBOUR: 'it returns false'. Refute it at one input. -/
def looksWrong : ChangeSpec := { name := "looks", fn := fun _ => fun
  | [d1, d2, d3] => { results := [.lit (.bool false)], args := [d1, d2, d3] }
  | _ => none }
def LooksWrongFalsely : Prop := looksRow.holds Try.pinned (OpenSpec.ofChange looksWrong)

/-- 'pawlkeep.Born': WHATEVER THE INPUT: true; the input reads as it did. -/
def bornSpec : ChangeSpec := { name := "born", fn := fun _ => fun
  | [d1, d2, d3] => { results := [.lit (.bool true)], args := [d1, d2, d3] }
  | _ => none }
def bornRow : OpenClaim := { program := "ytabpkohcimiceaa", sum := "aa30407144f03c1fc1d9f60886ba741b937daa5a210f6e5362ac54d8bc7b9df2", func := "pawl/pawlkeep.Born", spec := "born", apart := false }
def BornSaid : Prop := bornRow.holds Try.pinned (OpenSpec.ofChange bornSpec)

/-- ITS FALSE NEIGHBOUR: 'it returns false'. Refute it at one input. -/
def bornWrong : ChangeSpec := { name := "born", fn := fun _ => fun
  | [d1, d2, d3] => { results := [.lit (.bool false)], args := [d1, d2, d3] }
  | _ => none }
def BornWrongFalsely : Prop := bornRow.holds Try.pinned (OpenSpec.ofChange bornWrong)

/-- 'pawllaw.Sends': WHATEVER THE INPUT: true; the input reads as it did. -/
def sendsSpec : ChangeSpec := { name := "sends", fn := fun _ => fun
  | [d1, d2, d3, d4] => { results := [.lit (.bool true)], args := [d1, d2, d3, d4] }
  | _ => none }
def sendsRow : OpenClaim := { program := "ytabpkohcimiceaa", sum := "aa30407144f03c1fc1d9f60886ba741b937daa5a210f6e5362ac54d8bc7b9df2", func := "pawl/pawllaw.Sends", spec := "sends", recurses := true, apart := false }
def SendsSaid : Prop := sendsRow.holds Try.pinned (OpenSpec.ofChange sendsSpec)

/-- ITS FALSE NEIGHBOUR: 'it returns false'. Refute it at one input. -/
def sendsWrong : ChangeSpec := { name := "sends", fn := fun _ => fun
  | [d1, d2, d3, d4] => { results := [.lit (.bool false)], args := [d1, d2, d3, d4] }
  | _ => none }
def SendsWrongFalsely : Prop := sendsRow.holds Try.pinned (OpenSpec.ofChange sendsWrong)

/-- 'pawlkeep.Kept': WHATEVER THE INPUT: true; the input reads as it did. -/
def keptSpec : ChangeSpec := { name := "kept", fn := fun _ => fun
  | [d1, d2] => { results := [.lit (.bool true)], args := [d1, d2] }
  | _ => none }
def keptRow : OpenClaim := { program := "ytabpkohcimiceaa", sum := "aa30407144f03c1fc1d9f60886ba741b937daa5a210f6e5362ac54d8bc7b9df2", func := "pawl/pawlkeep.Kept", spec := "kept", apart := false }
def KeptSaid : Prop := keptRow.holds Try.pinned (OpenSpec.ofChange keptSpec)

/-- ITS FALSE NEIGHBOUR: 'it returns false'. Refute it at one input. -/
def keptWrong : ChangeSpec := { name := "kept", fn := fun _ => fun
  | [d1, d2] => { results := [.lit (.bool false)], args := [d1, d2] }
  | _ => none }
def KeptWrongFalsely : Prop := keptRow.holds Try.pinned (OpenSpec.ofChange keptWrong)

/- THE SECOND FORM. 'bulk': how many values and letters a reading holds, each counted each time it is reached (what is shared counts as often as it is met; a slice's spare places count too). A statement '..UptoSaid' is the law's where the arguments, and the package variables that the reading takes, are together of bulk at most 1048576: NARROWER than '..Said'. Prove '..Said' where nothing that the law and all that it calls make is longer than what came in: it says more and counts as full. Else prove '..UptoSaid'. A law counts once. -/
mutual
def uptoBulk {H : Type} : DataW H → Nat
  | .lit (.string bytes) => bytes.length + 1
  | .lit _ => 1
  | .nil => 1
  | .ptr d => uptoBulk d + 1
  | .slice elems spare => uptoBulkAll elems + uptoBulkAll spare + 1
  | .agg parts => uptoBulkAll parts + 1
  | .iface _ d => uptoBulk d + 1
  | .map entries => uptoBulkEntries entries + 1
  | .held _ => 1
def uptoBulkAll {H : Type} : List (DataW H) → Nat
  | [] => 0
  | d :: r => uptoBulk d + uptoBulkAll r
def uptoBulkEntries {H : Type} : List (Lit × DataW H) → Nat
  | [] => 0
  | x :: r => uptoBulkEntry x + uptoBulkEntries r
def uptoBulkEntry {H : Type} : Lit × DataW H → Nat
  | (.string bytes, d) => bytes.length + uptoBulk d + 1
  | (_, d) => uptoBulk d + 1
 end
def uptoSmall : (H : Type) → List (DataW H) → Bool := fun _ ds => decide (uptoBulkAll ds ≤ 1048576)
def OpenSpec.upto (s : _root_.Go.ChangeSpec) : _root_.Go.OpenSpec := { _root_.Go.OpenSpec.ofChange s with cond := some uptoSmall }

/-- 'pawllaw.Mixes', WHERE WHAT IT READS IS OF BULK AT MOST 1048576: true; the input reads as it did. -/
def mixesUptoRow : OpenClaim := { program := "ytabpkohcimiceaa", sum := "aa30407144f03c1fc1d9f60886ba741b937daa5a210f6e5362ac54d8bc7b9df2", func := "pawl/pawllaw.Mixes", spec := "mixes", apart := false, narrowed := true }
def MixesUptoSaid : Prop := mixesUptoRow.holds Try.pinned (OpenSpec.upto mixesSpec)

/-- 'pawllaw.Powers', WHERE WHAT IT READS IS OF BULK AT MOST 1048576: true; the input reads as it did. -/
def powersUptoRow : OpenClaim := { program := "ytabpkohcimiceaa", sum := "aa30407144f03c1fc1d9f60886ba741b937daa5a210f6e5362ac54d8bc7b9df2", func := "pawl/pawllaw.Powers", spec := "powers", recurses := true, apart := false, narrowed := true }
def PowersUptoSaid : Prop := powersUptoRow.holds Try.pinned (OpenSpec.upto powersSpec)

/-- 'pawllaw.Seals', WHERE WHAT IT READS IS OF BULK AT MOST 1048576: true; the input reads as it did. -/
def sealsUptoRow : OpenClaim := { program := "ytabpkohcimiceaa", sum := "aa30407144f03c1fc1d9f60886ba741b937daa5a210f6e5362ac54d8bc7b9df2", func := "pawl/pawllaw.Seals", spec := "seals", apart := false, narrowed := true }
def SealsUptoSaid : Prop := sealsUptoRow.holds Try.pinned (OpenSpec.upto sealsSpec)

/-- 'pawlkeep.Agree', WHERE WHAT IT READS IS OF BULK AT MOST 1048576: true; the input reads as it did. -/
def agreeUptoRow : OpenClaim := { program := "ytabpkohcimiceaa", sum := "aa30407144f03c1fc1d9f60886ba741b937daa5a210f6e5362ac54d8bc7b9df2", func := "pawl/pawlkeep.Agree", spec := "agree", apart := false, narrowed := true }
def AgreeUptoSaid : Prop := agreeUptoRow.holds Try.pinned (OpenSpec.upto agreeSpec)

/-- 'pawlkeep.Opens', WHERE WHAT IT READS IS OF BULK AT MOST 1048576: true; the input reads as it did. -/
def opensUptoRow : OpenClaim := { program := "ytabpkohcimiceaa", sum := "aa30407144f03c1fc1d9f60886ba741b937daa5a210f6e5362ac54d8bc7b9df2", func := "pawl/pawlkeep.Opens", spec := "opens", apart := false, narrowed := true }
def OpensUptoSaid : Prop := opensUptoRow.holds Try.pinned (OpenSpec.upto opensSpec)

/-- 'pawllaw.Replays', WHERE WHAT IT READS IS OF BULK AT MOST 1048576: true; the input reads as it did. -/
def replaysUptoRow : OpenClaim := { program := "ytabpkohcimiceaa", sum := "aa30407144f03c1fc1d9f60886ba741b937daa5a210f6e5362ac54d8bc7b9df2", func := "pawl/pawllaw.Replays", spec := "replays", apart := false, narrowed := true }
def ReplaysUptoSaid : Prop := replaysUptoRow.holds Try.pinned (OpenSpec.upto replaysSpec)

/-- 'pawllaw.Creates', WHERE WHAT IT READS IS OF BULK AT MOST 1048576: true; the input reads as it did. -/
def createsUptoRow : OpenClaim := { program := "ytabpkohcimiceaa", sum := "aa30407144f03c1fc1d9f60886ba741b937daa5a210f6e5362ac54d8bc7b9df2", func := "pawl/pawllaw.Creates", spec := "creates", recurses := true, apart := false, narrowed := true }
def CreatesUptoSaid : Prop := createsUptoRow.holds Try.pinned (OpenSpec.upto createsSpec)

/-- 'pawllaw.Looks', WHERE WHAT IT READS IS OF BULK AT MOST 1048576: true; the input reads as it did. -/
def looksUptoRow : OpenClaim := { program := "ytabpkohcimiceaa", sum := "aa30407144f03c1fc1d9f60886ba741b937daa5a210f6e5362ac54d8bc7b9df2", func := "pawl/pawllaw.Looks", spec := "looks", recurses := true, apart := false, narrowed := true }
def LooksUptoSaid : Prop := looksUptoRow.holds Try.pinned (OpenSpec.upto looksSpec)

/-- 'pawlkeep.Born', WHERE WHAT IT READS IS OF BULK AT MOST 1048576: true; the input reads as it did. -/
def bornUptoRow : OpenClaim := { program := "ytabpkohcimiceaa", sum := "aa30407144f03c1fc1d9f60886ba741b937daa5a210f6e5362ac54d8bc7b9df2", func := "pawl/pawlkeep.Born", spec := "born", apart := false, narrowed := true }
def BornUptoSaid : Prop := bornUptoRow.holds Try.pinned (OpenSpec.upto bornSpec)

/-- 'pawllaw.Sends', WHERE WHAT IT READS IS OF BULK AT MOST 1048576: true; the input reads as it did. -/
def sendsUptoRow : OpenClaim := { program := "ytabpkohcimiceaa", sum := "aa30407144f03c1fc1d9f60886ba741b937daa5a210f6e5362ac54d8bc7b9df2", func := "pawl/pawllaw.Sends", spec := "sends", recurses := true, apart := false, narrowed := true }
def SendsUptoSaid : Prop := sendsUptoRow.holds Try.pinned (OpenSpec.upto sendsSpec)

/-- 'pawlkeep.Kept', WHERE WHAT IT READS IS OF BULK AT MOST 1048576: true; the input reads as it did. -/
def keptUptoRow : OpenClaim := { program := "ytabpkohcimiceaa", sum := "aa30407144f03c1fc1d9f60886ba741b937daa5a210f6e5362ac54d8bc7b9df2", func := "pawl/pawlkeep.Kept", spec := "kept", apart := false, narrowed := true }
def KeptUptoSaid : Prop := keptUptoRow.holds Try.pinned (OpenSpec.upto keptSpec)

end Rows
end Go.Proofs.Ytabpkohcimiceaa
