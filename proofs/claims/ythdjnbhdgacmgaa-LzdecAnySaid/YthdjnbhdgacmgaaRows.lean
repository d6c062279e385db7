/-
  No cell of these rows narrows 'for every input' (looked for: loops, veiled, ifaces, maps, wideKeys, modest, calm, conditions, laid).
  DERIVED. THE GIVEN ROWS OF THIS SEAT. 4 by the template 'for every input the law returns true; each argument reads behind the call as it read before'; 0 by the template 'total and deterministic' (their statements: YthdjnbhdgacmgaaTotals.lean).
  GIVEN WITH THE SEED: the statements are not yours to turn. If you find one false, say at which input.
  Laid BY PROGRAM, IN A SANDBOX (cutbox-rows.mjs): the forced cells as the released guide's own fill.sh prints them over the translation 2b4e38ea37693743… (all of the seat's roots in one cut). By AI agents, Wed Nov 11 2026. No macro, syntax, notation, axiom, sorry.
-/
import Derived.Test.YthdjnbhdgacmgaaChecked
import GoSem.Claim
import GoSem.ClaimJoined
import GoSem.ClaimMapViews
import Derived.JoinedTies
import Derived.KernelRfl
namespace Go.Proofs.Ythdjnbhdgacmgaa
/- THE CELL 'sum', in the pinned program and in every row, IS THE sha256 OF THE DUMP (.gsa) THAT YthdjnbhdgacmgaaProg.lean LOADS. Nothing in Lean hashes anything: it is a label: what it is worth is what the hold of that sum in a sandbox is worth. -/
noncomputable def Try.pinned : Pinned := { name := "ythdjnbhdgacmgaa", sum := "2b4e38ea376937437f9b912a08d3ca1119a00ebfbd88e637d3533f32f0188bba", checked := Try.checked }
namespace Rows
def none {H : Type} : Left H := { results := [], args := [] }

/-- 'cassonelaw11.LzdecAny': WHATEVER THE INPUT: true; the input reads as it did. -/
def lzdecAnySpec : ChangeSpec := { name := "lzdecAny", fn := fun _ => fun
  | [d] => { results := [.lit (.bool true)], args := [d] }
  | _ => none }
def lzdecAnyRow : OpenClaim := { program := "ythdjnbhdgacmgaa", sum := "2b4e38ea376937437f9b912a08d3ca1119a00ebfbd88e637d3533f32f0188bba", func := "cassone/cassonelaw11.LzdecAny", spec := "lzdecAny", unfollowed := true, recurses := true, plainKeys := false, apart := false }
def LzdecAnySaid : Prop := lzdecAnyRow.holds Try.pinned (OpenSpec.ofChange lzdecAnySpec)

/-- ITS FALSE NEIGHBOUR: 'it returns false'. Refute it at one input. -/
def lzdecAnyWrong : ChangeSpec := { name := "lzdecAny", fn := fun _ => fun
  | [d] => { results := [.lit (.bool false)], args := [d] }
  | _ => none }
def LzdecAnyWrongFalsely : Prop := lzdecAnyRow.holds Try.pinned (OpenSpec.ofChange lzdecAnyWrong)

/-- 'cassonelaw12.LzencWrites': WHATEVER THE INPUT: true; the input reads as it did. -/
def lzencWritesSpec : ChangeSpec := { name := "lzencWrites", fn := fun _ => fun
  | [d1, d2, d3] => { results := [.lit (.bool true)], args := [d1, d2, d3] }
  | _ => none }
def lzencWritesRow : OpenClaim := { program := "ythdjnbhdgacmgaa", sum := "2b4e38ea376937437f9b912a08d3ca1119a00ebfbd88e637d3533f32f0188bba", func := "cassone/cassonelaw12.LzencWrites", spec := "lzencWrites", unfollowed := true, recurses := true, plainKeys := false, apart := false }
def LzencWritesSaid : Prop := lzencWritesRow.holds Try.pinned (OpenSpec.ofChange lzencWritesSpec)

/-- ITS FALSE NEIGHBOUR: 'it returns false'. Refute it at one input. -/
def lzencWritesWrong : ChangeSpec := { name := "lzencWrites", fn := fun _ => fun
  | [d1, d2, d3] => { results := [.lit (.bool false)], args := [d1, d2, d3] }
  | _ => none }
def LzencWritesWrongFalsely : Prop := lzencWritesRow.holds Try.pinned (OpenSpec.ofChange lzencWritesWrong)

/-- 'cassonelaw13.GreedyParses': WHATEVER THE INPUT: true; the input reads as it did. -/
def greedyParsesSpec : ChangeSpec := { name := "greedyParses", fn := fun _ => fun
  | [d1, d2, d3] => { results := [.lit (.bool true)], args := [d1, d2, d3] }
  | _ => none }
def greedyParsesRow : OpenClaim := { program := "ythdjnbhdgacmgaa", sum := "2b4e38ea376937437f9b912a08d3ca1119a00ebfbd88e637d3533f32f0188bba", func := "cassone/cassonelaw13.GreedyParses", spec := "greedyParses", plainKeys := false, apart := false }
def GreedyParsesSaid : Prop := greedyParsesRow.holds Try.pinned (OpenSpec.ofChange greedyParsesSpec)

/-- ITS FALSE NEIGHBOUR: 'it returns false'. Refute it at one input. -/
def greedyParsesWrong : ChangeSpec := { name := "greedyParses", fn := fun _ => fun
  | [d1, d2, d3] => { results := [.lit (.bool false)], args := [d1, d2, d3] }
  | _ => none }
def GreedyParsesWrongFalsely : Prop := greedyParsesRow.holds Try.pinned (OpenSpec.ofChange greedyParsesWrong)

/-- 'cassonelaw14.LazyParses': WHATEVER THE INPUT: true; the input reads as it did. -/
def lazyParsesSpec : ChangeSpec := { name := "lazyParses", fn := fun _ => fun
  | [d1, d2, d3] => { results := [.lit (.bool true)], args := [d1, d2, d3] }
  | _ => none }
def lazyParsesRow : OpenClaim := { program := "ythdjnbhdgacmgaa", sum := "2b4e38ea376937437f9b912a08d3ca1119a00ebfbd88e637d3533f32f0188bba", func := "cassone/cassonelaw14.LazyParses", spec := "lazyParses", plainKeys := false, apart := false }
def LazyParsesSaid : Prop := lazyParsesRow.holds Try.pinned (OpenSpec.ofChange lazyParsesSpec)

/-- ITS FALSE NEIGHBOUR: 'it returns false'. Refute it at one input. -/
def lazyParsesWrong : ChangeSpec := { name := "lazyParses", fn := fun _ => fun
  | [d1, d2, d3] => { results := [.lit (.bool false)], args := [d1, d2, d3] }
  | _ => none }
def LazyParsesWrongFalsely : Prop := lazyParsesRow.holds Try.pinned (OpenSpec.ofChange lazyParsesWrong)

/- THE SECOND FORM. 'bulk': how many values and letters a reading holds, each counted each time it is reached (what is shared counts as often as it is met; a slice's spare places count too). A statement '..UptoSaid' is the law's where the arguments, and the package variables that the reading takes, are together of bulk at most 1048576: NARROWER than '..Said'. Prove '..Said' where nothing that the law and all that it calls make is longer than what came in: it says more and counts as full. Else prove '..UptoSaid'. A law counts once. -/
mutual
def uptoBulk {H : Type} : DataW H → Nat
  | .lit (.string bytes) => bytes.length + 1
  | .lit _ => 1
  | .nil => 1
  | .ptr d => uptoBulk d + 1
  | .slice elems spare => uptoBulkAll elems + uptoBulkAll spare + 1
  | .agg parts => uptoBulkAll parts + 1
  | .iface _ d => uptoBulk d + 1
  | .map entries => uptoBulkEntries entries + 1
  | .held _ => 1
def uptoBulkAll {H : Type} : List (DataW H) → Nat
  | [] => 0
  | d :: r => uptoBulk d + uptoBulkAll r
def uptoBulkEntries {H : Type} : List (Lit × DataW H) → Nat
  | [] => 0
  | x :: r => uptoBulkEntry x + uptoBulkEntries r
def uptoBulkEntry {H : Type} : Lit × DataW H → Nat
  | (.string bytes, d) => bytes.length + uptoBulk d + 1
  | (_, d) => uptoBulk d + 1
 end
def uptoSmall : (H : Type) → List (DataW H) → Bool := fun _ ds => decide (uptoBulkAll ds ≤ 1048576)
def OpenSpec.upto (s : _root_.Go.ChangeSpec) : _root_.Go.OpenSpec := { _root_.Go.OpenSpec.ofChange s with cond := some uptoSmall }

/-- 'cassonelaw11.LzdecAny', WHERE WHAT IT READS IS OF BULK AT MOST 1048576: true; the input reads as it did. -/
def lzdecAnyUptoRow : OpenClaim := { program := "ythdjnbhdgacmgaa", sum := "2b4e38ea376937437f9b912a08d3ca1119a00ebfbd88e637d3533f32f0188bba", func := "cassone/cassonelaw11.LzdecAny", spec := "lzdecAny", unfollowed := true, recurses := true, plainKeys := false, apart := false, narrowed := true }
def LzdecAnyUptoSaid : Prop := lzdecAnyUptoRow.holds Try.pinned (OpenSpec.upto lzdecAnySpec)

/-- 'cassonelaw12.LzencWrites', WHERE WHAT IT READS IS OF BULK AT MOST 1048576: true; the input reads as it did. -/
def lzencWritesUptoRow : OpenClaim := { program := "ythdjnbhdgacmgaa", sum := "2b4e38ea376937437f9b912a08d3ca1119a00ebfbd88e637d3533f32f0188bba", func := "cassone/cassonelaw12.LzencWrites", spec := "lzencWrites", unfollowed := true, recurses := true, plainKeys := false, apart := false, narrowed := true }
def LzencWritesUptoSaid : Prop := lzencWritesUptoRow.holds Try.pinned (OpenSpec.upto lzencWritesSpec)

/-- 'cassonelaw13.GreedyParses', WHERE WHAT IT READS IS OF BULK AT MOST 1048576: true; the input reads as it did. -/
def greedyParsesUptoRow : OpenClaim := { program := "ythdjnbhdgacmgaa", sum := "2b4e38ea376937437f9b912a08d3ca1119a00ebfbd88e637d3533f32f0188bba", func := "cassone/cassonelaw13.GreedyParses", spec := "greedyParses", plainKeys := false, apart := false, narrowed := true }
def GreedyParsesUptoSaid : Prop := greedyParsesUptoRow.holds Try.pinned (OpenSpec.upto greedyParsesSpec)

/-- 'cassonelaw14.LazyParses', WHERE WHAT IT READS IS OF BULK AT MOST 1048576: true; the input reads as it did. -/
def lazyParsesUptoRow : OpenClaim := { program := "ythdjnbhdgacmgaa", sum := "2b4e38ea376937437f9b912a08d3ca1119a00ebfbd88e637d3533f32f0188bba", func := "cassone/cassonelaw14.LazyParses", spec := "lazyParses", plainKeys := false, apart := false, narrowed := true }
def LazyParsesUptoSaid : Prop := lazyParsesUptoRow.holds Try.pinned (OpenSpec.upto lazyParsesSpec)

end Rows
end Go.Proofs.Ythdjnbhdgacmgaa
