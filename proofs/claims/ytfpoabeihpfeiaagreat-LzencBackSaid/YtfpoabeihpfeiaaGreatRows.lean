/-
  No cell of these rows narrows 'for every input' (looked for: loops, veiled, ifaces, maps, wideKeys, modest, calm, conditions, laid).
  DERIVED. THE GIVEN ROWS OF THIS SEAT. 2 by the template 'for every input the law returns true; each argument reads behind the call as it read before'; 0 by the template 'total and deterministic' (their statements: YtfpoabeihpfeiaaGreatTotals.lean).
  GIVEN WITH THE SEED: the statements are not yours to turn. If you find one false, say at which input.
  Laid BY PROGRAM, IN A SANDBOX (cutbox-rows.mjs): the forced cells as the released guide's own fill.sh prints them over the translation e7b93b4f2a257616… (all of the seat's roots in one cut). By AI agents, Wed Nov 11 2026. No macro, syntax, notation, axiom, sorry.
-/
import Derived.Test.YtfpoabeihpfeiaaGreatChecked
import GoSem.Claim
import GoSem.ClaimJoined
import GoSem.ClaimMapViews
import Derived.JoinedTies
import Derived.KernelRfl
namespace Go.Proofs.YtfpoabeihpfeiaaGreat
/- THE CELL 'sum', in the pinned program and in every row, IS THE sha256 OF THE DUMP (.gsa) THAT YtfpoabeihpfeiaaGreatProg.lean LOADS. Nothing in Lean hashes anything: it is a label: what it is worth is what the hold of that sum in a sandbox is worth. -/
noncomputable def Tryz.pinned : Pinned := { name := "ytfpoabeihpfeiaagreat", sum := "e7b93b4f2a25761605a1ca4c1d1008a58a36f43e6848e822563415350603b998", checked := Tryz.checked }
namespace Rows
def none {H : Type} : Left H := { results := [], args := [] }

/-- 'cassonelaw11.LzdecReads': WHATEVER THE INPUT: true; the input reads as it did. -/
def lzdecReadsSpec : ChangeSpec := { name := "lzdecReads", fn := fun _ => fun
  | [d1, d2, d3] => { results := [.lit (.bool true)], args := [d1, d2, d3] }
  | _ => none }
def lzdecReadsRow : OpenClaim := { program := "ytfpoabeihpfeiaagreat", sum := "e7b93b4f2a25761605a1ca4c1d1008a58a36f43e6848e822563415350603b998", func := "cassone/cassonelaw11.LzdecReads", spec := "lzdecReads", unfollowed := true, recurses := true, plainKeys := false, apart := false }
def LzdecReadsSaid : Prop := lzdecReadsRow.holds Tryz.pinned (OpenSpec.ofChange lzdecReadsSpec)

/-- ITS FALSE NEIGHBOUR: 'it returns false'. Refute it at one input. -/
def lzdecReadsWrong : ChangeSpec := { name := "lzdecReads", fn := fun _ => fun
  | [d1, d2, d3] => { results := [.lit (.bool false)], args := [d1, d2, d3] }
  | _ => none }
def LzdecReadsWrongFalsely : Prop := lzdecReadsRow.holds Tryz.pinned (OpenSpec.ofChange lzdecReadsWrong)

/-- 'cassonelaw12.LzencBack': WHATEVER THE INPUT: true; the input reads as it did. -/
def lzencBackSpec : ChangeSpec := { name := "lzencBack", fn := fun _ => fun
  | [d1, d2, d3] => { results := [.lit (.bool true)], args := [d1, d2, d3] }
  | _ => none }
def lzencBackRow : OpenClaim := { program := "ytfpoabeihpfeiaagreat", sum := "e7b93b4f2a25761605a1ca4c1d1008a58a36f43e6848e822563415350603b998", func := "cassone/cassonelaw12.LzencBack", spec := "lzencBack", unfollowed := true, recurses := true, plainKeys := false, apart := false }
def LzencBackSaid : Prop := lzencBackRow.holds Tryz.pinned (OpenSpec.ofChange lzencBackSpec)

/-- ITS FALSE NEIGHBOUR: 'it returns false'. Refute it at one input. -/
def lzencBackWrong : ChangeSpec := { name := "lzencBack", fn := fun _ => fun
  | [d1, d2, d3] => { results := [.lit (.bool false)], args := [d1, d2, d3] }
  | _ => none }
def LzencBackWrongFalsely : Prop := lzencBackRow.holds Tryz.pinned (OpenSpec.ofChange lzencBackWrong)

/- THE SECOND FORM. 'bulk': how many values and letters a reading holds, each counted each time it is reached (what is shared counts as often as it is met; a slice's spare places count too). A statement '..UptoSaid' is the law's where the arguments, and the package variables that the reading takes, are together of bulk at most 1048576: NARROWER than '..Said'. Prove '..Said' where nothing that the law and all that it calls make is longer than what came in: it says more and counts as full. Else prove '..UptoSaid'. A law counts once. -/
mutual
def uptoBulk {H : Type} : DataW H → Nat
  | .lit (.string bytes) => bytes.length + 1
  | .lit _ => 1
  | .nil => 1
  | .ptr d => uptoBulk d + 1
  | .slice elems spare => uptoBulkAll elems + uptoBulkAll spare + 1
  | .agg parts => uptoBulkAll parts + 1
  | .iface _ d => uptoBulk d + 1
  | .map entries => uptoBulkEntries entries + 1
  | .held _ => 1
def uptoBulkAll {H : Type} : List (DataW H) → Nat
  | [] => 0
  | d :: r => uptoBulk d + uptoBulkAll r
def uptoBulkEntries {H : Type} : List (Lit × DataW H) → Nat
  | [] => 0
  | x :: r => uptoBulkEntry x + uptoBulkEntries r
def uptoBulkEntry {H : Type} : Lit × DataW H → Nat
  | (.string bytes, d) => bytes.length + uptoBulk d + 1
  | (_, d) => uptoBulk d + 1
 end
def uptoSmall : (H : Type) → List (DataW H) → Bool := fun _ ds => decide (uptoBulkAll ds ≤ 1048576)
def OpenSpec.upto (s : _root_.Go.ChangeSpec) : _root_.Go.OpenSpec := { _root_.Go.OpenSpec.ofChange s with cond := some uptoSmall }

/-- 'cassonelaw11.LzdecReads', WHERE WHAT IT READS IS OF BULK AT MOST 1048576: true; the input reads as it did. -/
def lzdecReadsUptoRow : OpenClaim := { program := "ytfpoabeihpfeiaagreat", sum := "e7b93b4f2a25761605a1ca4c1d1008a58a36f43e6848e822563415350603b998", func := "cassone/cassonelaw11.LzdecReads", spec := "lzdecReads", unfollowed := true, recurses := true, plainKeys := false, apart := false, narrowed := true }
def LzdecReadsUptoSaid : Prop := lzdecReadsUptoRow.holds Tryz.pinned (OpenSpec.upto lzdecReadsSpec)

/-- 'cassonelaw12.LzencBack', WHERE WHAT IT READS IS OF BULK AT MOST 1048576: true; the input reads as it did. -/
def lzencBackUptoRow : OpenClaim := { program := "ytfpoabeihpfeiaagreat", sum := "e7b93b4f2a25761605a1ca4c1d1008a58a36f43e6848e822563415350603b998", func := "cassone/cassonelaw12.LzencBack", spec := "lzencBack", unfollowed := true, recurses := true, plainKeys := false, apart := false, narrowed := true }
def LzencBackUptoSaid : Prop := lzencBackUptoRow.holds Tryz.pinned (OpenSpec.upto lzencBackSpec)

end Rows
end Go.Proofs.YtfpoabeihpfeiaaGreat
