/-
  No cell of these rows narrows 'for every input' (looked for: loops, veiled, ifaces, maps, wideKeys, modest, calm, conditions, laid).
  DERIVED. THE GIVEN ROWS OF THIS SEAT. 6 by the template 'for every input the law returns true; each argument reads behind the call as it read before'; 0 by the template 'total and deterministic' (their statements: YtollngjnoccmfaaTotals.lean).
  GIVEN WITH THE SEED: the statements are not yours to turn. If you find one false, say at which input.
  Laid BY PROGRAM, IN A SANDBOX (cutbox-rows.mjs): the forced cells as the released guide's own fill.sh prints them over the translation 5937f237b22ec715… (all of the seat's roots in one cut). By AI agents, Wed Nov 11 2026. No macro, syntax, notation, axiom, sorry.
-/
import Derived.Test.YtollngjnoccmfaaChecked
import GoSem.Claim
import GoSem.ClaimJoined
import GoSem.ClaimMapViews
import Derived.JoinedTies
import Derived.KernelRfl
namespace Go.Proofs.Ytollngjnoccmfaa
/- THE CELL 'sum', in the pinned program and in every row, IS THE sha256 OF THE DUMP (.gsa) THAT YtollngjnoccmfaaProg.lean LOADS. Nothing in Lean hashes anything: it is a label: what it is worth is what the hold of that sum in a sandbox is worth. -/
noncomputable def Try.pinned : Pinned := { name := "ytollngjnoccmfaa", sum := "5937f237b22ec715619ace2c1a971ca9815731137207d90e854ccb3d6053ef57", checked := Try.checked }
namespace Rows
def none {H : Type} : Left H := { results := [], args := [] }

/-- 'cassonelaw12.LzencWrites': WHATEVER THE INPUT: true; the input reads as it did. -/
def lzencWritesSpec : ChangeSpec := { name := "lzencWrites", fn := fun _ => fun
  | [d1, d2, d3] => { results := [.lit (.bool true)], args := [d1, d2, d3] }
  | _ => none }
def lzencWritesRow : OpenClaim := { program := "ytollngjnoccmfaa", sum := "5937f237b22ec715619ace2c1a971ca9815731137207d90e854ccb3d6053ef57", func := "cassone/cassonelaw12.LzencWrites", spec := "lzencWrites", unfollowed := true, recurses := true, plainKeys := false, apart := false }
def LzencWritesSaid : Prop := lzencWritesRow.holds Try.pinned (OpenSpec.ofChange lzencWritesSpec)

/-- ITS FALSE NEIGHBOUR: 'it returns false'. Refute it at one input. -/
def lzencWritesWrong : ChangeSpec := { name := "lzencWrites", fn := fun _ => fun
  | [d1, d2, d3] => { results := [.lit (.bool false)], args := [d1, d2, d3] }
  | _ => none }
def LzencWritesWrongFalsely : Prop := lzencWritesRow.holds Try.pinned (OpenSpec.ofChange lzencWritesWrong)

/-- 'cassonelaw16.OptimalLeast': WHATEVER THE INPUT: true; the input reads as it did. -/
def optimalLeastSpec : ChangeSpec := { name := "optimalLeast", fn := fun _ => fun
  | [d1, d2, d3] => { results := [.lit (.bool true)], args := [d1, d2, d3] }
  | _ => none }
def optimalLeastRow : OpenClaim := { program := "ytollngjnoccmfaa", sum := "5937f237b22ec715619ace2c1a971ca9815731137207d90e854ccb3d6053ef57", func := "cassone/cassonelaw16.OptimalLeast", spec := "optimalLeast", unfollowed := true, recurses := true, plainKeys := false, apart := false }
def OptimalLeastSaid : Prop := optimalLeastRow.holds Try.pinned (OpenSpec.ofChange optimalLeastSpec)

/-- ITS FALSE NEIGHBOUR: 'it returns false'. Refute it at one input. -/
def optimalLeastWrong : ChangeSpec := { name := "optimalLeast", fn := fun _ => fun
  | [d1, d2, d3] => { results := [.lit (.bool false)], args := [d1, d2, d3] }
  | _ => none }
def OptimalLeastWrongFalsely : Prop := optimalLeastRow.holds Try.pinned (OpenSpec.ofChange optimalLeastWrong)

/-- 'cassonelaw17.ArenaPlays': WHATEVER THE INPUT: true; the input reads as it did. -/
def arenaPlaysSpec : ChangeSpec := { name := "arenaPlays", fn := fun _ => fun
  | [d1, d2] => { results := [.lit (.bool true)], args := [d1, d2] }
  | _ => none }
def arenaPlaysRow : OpenClaim := { program := "ytollngjnoccmfaa", sum := "5937f237b22ec715619ace2c1a971ca9815731137207d90e854ccb3d6053ef57", func := "cassone/cassonelaw17.ArenaPlays", spec := "arenaPlays", plainKeys := false, apart := false }
def ArenaPlaysSaid : Prop := arenaPlaysRow.holds Try.pinned (OpenSpec.ofChange arenaPlaysSpec)

/-- ITS FALSE NEIGHBOUR: 'it returns false'. Refute it at one input. -/
def arenaPlaysWrong : ChangeSpec := { name := "arenaPlays", fn := fun _ => fun
  | [d1, d2] => { results := [.lit (.bool false)], args := [d1, d2] }
  | _ => none }
def ArenaPlaysWrongFalsely : Prop := arenaPlaysRow.holds Try.pinned (OpenSpec.ofChange arenaPlaysWrong)

/-- 'cassonelaw17.ArenaTypes': WHATEVER THE INPUT: true; the input reads as it did. -/
def arenaTypesSpec : ChangeSpec := { name := "arenaTypes", fn := fun _ => fun
  | [d] => { results := [.lit (.bool true)], args := [d] }
  | _ => none }
def arenaTypesRow : OpenClaim := { program := "ytollngjnoccmfaa", sum := "5937f237b22ec715619ace2c1a971ca9815731137207d90e854ccb3d6053ef57", func := "cassone/cassonelaw17.ArenaTypes", spec := "arenaTypes", plainKeys := false, apart := false }
def ArenaTypesSaid : Prop := arenaTypesRow.holds Try.pinned (OpenSpec.ofChange arenaTypesSpec)

/-- ITS FALSE NEIGHBOUR: 'it returns false'. Refute it at one input. -/
def arenaTypesWrong : ChangeSpec := { name := "arenaTypes", fn := fun _ => fun
  | [d] => { results := [.lit (.bool false)], args := [d] }
  | _ => none }
def ArenaTypesWrongFalsely : Prop := arenaTypesRow.holds Try.pinned (OpenSpec.ofChange arenaTypesWrong)

/-- 'cassonelaw18.ContextLearns': WHATEVER THE INPUT: true; the input reads as it did. -/
def contextLearnsSpec : ChangeSpec := { name := "contextLearns", fn := fun _ => fun
  | [d1, d2, d3] => { results := [.lit (.bool true)], args := [d1, d2, d3] }
  | _ => none }
def contextLearnsRow : OpenClaim := { program := "ytollngjnoccmfaa", sum := "5937f237b22ec715619ace2c1a971ca9815731137207d90e854ccb3d6053ef57", func := "cassone/cassonelaw18.ContextLearns", spec := "contextLearns", plainKeys := false, apart := false }
def ContextLearnsSaid : Prop := contextLearnsRow.holds Try.pinned (OpenSpec.ofChange contextLearnsSpec)

/-- ITS FALSE NEIGHBOUR: 'it returns false'. Refute it at one input. -/
def contextLearnsWrong : ChangeSpec := { name := "contextLearns", fn := fun _ => fun
  | [d1, d2, d3] => { results := [.lit (.bool false)], args := [d1, d2, d3] }
  | _ => none }
def ContextLearnsWrongFalsely : Prop := contextLearnsRow.holds Try.pinned (OpenSpec.ofChange contextLearnsWrong)

/-- 'cassonelaw18.ContextChain': WHATEVER THE INPUT: true; the input reads as it did. -/
def contextChainSpec : ChangeSpec := { name := "contextChain", fn := fun _ => fun
  | [d1, d2, d3] => { results := [.lit (.bool true)], args := [d1, d2, d3] }
  | _ => none }
def contextChainRow : OpenClaim := { program := "ytollngjnoccmfaa", sum := "5937f237b22ec715619ace2c1a971ca9815731137207d90e854ccb3d6053ef57", func := "cassone/cassonelaw18.ContextChain", spec := "contextChain", plainKeys := false, apart := false }
def ContextChainSaid : Prop := contextChainRow.holds Try.pinned (OpenSpec.ofChange contextChainSpec)

/-- ITS FALSE NEIGHBOUR: 'it returns false'. Refute it at one input. -/
def contextChainWrong : ChangeSpec := { name := "contextChain", fn := fun _ => fun
  | [d1, d2, d3] => { results := [.lit (.bool false)], args := [d1, d2, d3] }
  | _ => none }
def ContextChainWrongFalsely : Prop := contextChainRow.holds Try.pinned (OpenSpec.ofChange contextChainWrong)

/- THE SECOND FORM. 'bulk': how many values and letters a reading holds, each counted each time it is reached (what is shared counts as often as it is met; a slice's spare places count too). A statement '..UptoSaid' is the law's where the arguments, and the package variables that the reading takes, are together of bulk at most 1048576: NARROWER than '..Said'. Prove '..Said' where nothing that the law and all that it calls make is longer than what came in: it says more and counts as full. Else prove '..UptoSaid'. A law counts once. -/
mutual
def uptoBulk {H : Type} : DataW H → Nat
  | .lit (.string bytes) => bytes.length + 1
  | .lit _ => 1
  | .nil => 1
  | .ptr d => uptoBulk d + 1
  | .slice elems spare => uptoBulkAll elems + uptoBulkAll spare + 1
  | .agg parts => uptoBulkAll parts + 1
  | .iface _ d => uptoBulk d + 1
  | .map entries => uptoBulkEntries entries + 1
  | .held _ => 1
def uptoBulkAll {H : Type} : List (DataW H) → Nat
  | [] => 0
  | d :: r => uptoBulk d + uptoBulkAll r
def uptoBulkEntries {H : Type} : List (Lit × DataW H) → Nat
  | [] => 0
  | x :: r => uptoBulkEntry x + uptoBulkEntries r
def uptoBulkEntry {H : Type} : Lit × DataW H → Nat
  | (.string bytes, d) => bytes.length + uptoBulk d + 1
  | (_, d) => uptoBulk d + 1
 end
def uptoSmall : (H : Type) → List (DataW H) → Bool := fun _ ds => decide (uptoBulkAll ds ≤ 1048576)
def OpenSpec.upto (s : _root_.Go.ChangeSpec) : _root_.Go.OpenSpec := { _root_.Go.OpenSpec.ofChange s with cond := some uptoSmall }

/-- 'cassonelaw12.LzencWrites', WHERE WHAT IT READS IS OF BULK AT MOST 1048576: true; the input reads as it did. -/
def lzencWritesUptoRow : OpenClaim := { program := "ytollngjnoccmfaa", sum := "5937f237b22ec715619ace2c1a971ca9815731137207d90e854ccb3d6053ef57", func := "cassone/cassonelaw12.LzencWrites", spec := "lzencWrites", unfollowed := true, recurses := true, plainKeys := false, apart := false, narrowed := true }
def LzencWritesUptoSaid : Prop := lzencWritesUptoRow.holds Try.pinned (OpenSpec.upto lzencWritesSpec)

/-- 'cassonelaw16.OptimalLeast', WHERE WHAT IT READS IS OF BULK AT MOST 1048576: true; the input reads as it did. -/
def optimalLeastUptoRow : OpenClaim := { program := "ytollngjnoccmfaa", sum := "5937f237b22ec715619ace2c1a971ca9815731137207d90e854ccb3d6053ef57", func := "cassone/cassonelaw16.OptimalLeast", spec := "optimalLeast", unfollowed := true, recurses := true, plainKeys := false, apart := false, narrowed := true }
def OptimalLeastUptoSaid : Prop := optimalLeastUptoRow.holds Try.pinned (OpenSpec.upto optimalLeastSpec)

/-- 'cassonelaw17.ArenaPlays', WHERE WHAT IT READS IS OF BULK AT MOST 1048576: true; the input reads as it did. -/
def arenaPlaysUptoRow : OpenClaim := { program := "ytollngjnoccmfaa", sum := "5937f237b22ec715619ace2c1a971ca9815731137207d90e854ccb3d6053ef57", func := "cassone/cassonelaw17.ArenaPlays", spec := "arenaPlays", plainKeys := false, apart := false, narrowed := true }
def ArenaPlaysUptoSaid : Prop := arenaPlaysUptoRow.holds Try.pinned (OpenSpec.upto arenaPlaysSpec)

/-- 'cassonelaw17.ArenaTypes', WHERE WHAT IT READS IS OF BULK AT MOST 1048576: true; the input reads as it did. -/
def arenaTypesUptoRow : OpenClaim := { program := "ytollngjnoccmfaa", sum := "5937f237b22ec715619ace2c1a971ca9815731137207d90e854ccb3d6053ef57", func := "cassone/cassonelaw17.ArenaTypes", spec := "arenaTypes", plainKeys := false, apart := false, narrowed := true }
def ArenaTypesUptoSaid : Prop := arenaTypesUptoRow.holds Try.pinned (OpenSpec.upto arenaTypesSpec)

/-- 'cassonelaw18.ContextLearns', WHERE WHAT IT READS IS OF BULK AT MOST 1048576: true; the input reads as it did. -/
def contextLearnsUptoRow : OpenClaim := { program := "ytollngjnoccmfaa", sum := "5937f237b22ec715619ace2c1a971ca9815731137207d90e854ccb3d6053ef57", func := "cassone/cassonelaw18.ContextLearns", spec := "contextLearns", plainKeys := false, apart := false, narrowed := true }
def ContextLearnsUptoSaid : Prop := contextLearnsUptoRow.holds Try.pinned (OpenSpec.upto contextLearnsSpec)

/-- 'cassonelaw18.ContextChain', WHERE WHAT IT READS IS OF BULK AT MOST 1048576: true; the input reads as it did. -/
def contextChainUptoRow : OpenClaim := { program := "ytollngjnoccmfaa", sum := "5937f237b22ec715619ace2c1a971ca9815731137207d90e854ccb3d6053ef57", func := "cassone/cassonelaw18.ContextChain", spec := "contextChain", plainKeys := false, apart := false, narrowed := true }
def ContextChainUptoSaid : Prop := contextChainUptoRow.holds Try.pinned (OpenSpec.upto contextChainSpec)

end Rows
end Go.Proofs.Ytollngjnoccmfaa
