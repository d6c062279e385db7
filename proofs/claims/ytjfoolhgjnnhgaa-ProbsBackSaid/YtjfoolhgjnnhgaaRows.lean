/-
  No cell of these rows narrows 'for every input' (looked for: loops, veiled, ifaces, maps, wideKeys, modest, calm, conditions, laid).
  DERIVED. THE GIVEN ROWS OF THIS SEAT. 8 by the template 'for every input the law returns true; each argument reads behind the call as it read before'; 0 by the template 'total and deterministic' (their statements: YtjfoolhgjnnhgaaTotals.lean).
  GIVEN WITH THE SEED: the statements are not yours to turn. If you find one false, say at which input.
  Laid BY PROGRAM, IN A SANDBOX (cutbox-rows.mjs): the forced cells as the released guide's own fill.sh prints them over the translation 710b7c7781a24eba… (all of the seat's roots in one cut). By AI agents, Wed Nov 11 2026. No macro, syntax, notation, axiom, sorry.
-/
import Derived.Test.YtjfoolhgjnnhgaaChecked
import GoSem.Claim
import GoSem.ClaimJoined
import GoSem.ClaimMapViews
import Derived.JoinedTies
import Derived.KernelRfl
namespace Go.Proofs.Ytjfoolhgjnnhgaa
/- THE CELL 'sum', in the pinned program and in every row, IS THE sha256 OF THE DUMP (.gsa) THAT YtjfoolhgjnnhgaaProg.lean LOADS. Nothing in Lean hashes anything: it is a label: what it is worth is what the hold of that sum in a sandbox is worth. -/
noncomputable def Try.pinned : Pinned := { name := "ytjfoolhgjnnhgaa", sum := "710b7c7781a24ebae86d1441339aea39b09c22745fbacc644904d6ef449ee04f", checked := Try.checked }
namespace Rows
def none {H : Type} : Left H := { results := [], args := [] }

/-- 'cassonelaw04.ProbsLike': WHATEVER THE INPUT: true; the input reads as it did. -/
def probsLikeSpec : ChangeSpec := { name := "probsLike", fn := fun _ => fun
  | [d] => { results := [.lit (.bool true)], args := [d] }
  | _ => none }
def probsLikeRow : OpenClaim := { program := "ytjfoolhgjnnhgaa", sum := "710b7c7781a24ebae86d1441339aea39b09c22745fbacc644904d6ef449ee04f", func := "cassone/cassonelaw04.ProbsLike", spec := "probsLike", apart := false }
def ProbsLikeSaid : Prop := probsLikeRow.holds Try.pinned (OpenSpec.ofChange probsLikeSpec)

/-- ITS FALSE NEIGHBOUR: 'it returns false'. Refute it at one input. -/
def probsLikeWrong : ChangeSpec := { name := "probsLike", fn := fun _ => fun
  | [d] => { results := [.lit (.bool false)], args := [d] }
  | _ => none }
def ProbsLikeWrongFalsely : Prop := probsLikeRow.holds Try.pinned (OpenSpec.ofChange probsLikeWrong)

/-- 'cassonelaw04.ProbsBack': WHATEVER THE INPUT: true; the input reads as it did. -/
def probsBackSpec : ChangeSpec := { name := "probsBack", fn := fun _ => fun
  | [d1, d2] => { results := [.lit (.bool true)], args := [d1, d2] }
  | _ => none }
def probsBackRow : OpenClaim := { program := "ytjfoolhgjnnhgaa", sum := "710b7c7781a24ebae86d1441339aea39b09c22745fbacc644904d6ef449ee04f", func := "cassone/cassonelaw04.ProbsBack", spec := "probsBack", apart := false }
def ProbsBackSaid : Prop := probsBackRow.holds Try.pinned (OpenSpec.ofChange probsBackSpec)

/-- ITS FALSE NEIGHBOUR: 'it returns false'. Refute it at one input. -/
def probsBackWrong : ChangeSpec := { name := "probsBack", fn := fun _ => fun
  | [d1, d2] => { results := [.lit (.bool false)], args := [d1, d2] }
  | _ => none }
def ProbsBackWrongFalsely : Prop := probsBackRow.holds Try.pinned (OpenSpec.ofChange probsBackWrong)

/-- 'cassonelaw05.FreqCounts': WHATEVER THE INPUT: true; the input reads as it did. -/
def freqCountsSpec : ChangeSpec := { name := "freqCounts", fn := fun _ => fun
  | [d] => { results := [.lit (.bool true)], args := [d] }
  | _ => none }
def freqCountsRow : OpenClaim := { program := "ytjfoolhgjnnhgaa", sum := "710b7c7781a24ebae86d1441339aea39b09c22745fbacc644904d6ef449ee04f", func := "cassone/cassonelaw05.FreqCounts", spec := "freqCounts", apart := false }
def FreqCountsSaid : Prop := freqCountsRow.holds Try.pinned (OpenSpec.ofChange freqCountsSpec)

/-- ITS FALSE NEIGHBOUR: 'it returns false'. Refute it at one input. -/
def freqCountsWrong : ChangeSpec := { name := "freqCounts", fn := fun _ => fun
  | [d] => { results := [.lit (.bool false)], args := [d] }
  | _ => none }
def FreqCountsWrongFalsely : Prop := freqCountsRow.holds Try.pinned (OpenSpec.ofChange freqCountsWrong)

/-- 'cassonelaw05.FreqPuts': WHATEVER THE INPUT: true; the input reads as it did. -/
def freqPutsSpec : ChangeSpec := { name := "freqPuts", fn := fun _ => fun
  | [d1, d2] => { results := [.lit (.bool true)], args := [d1, d2] }
  | _ => none }
def freqPutsRow : OpenClaim := { program := "ytjfoolhgjnnhgaa", sum := "710b7c7781a24ebae86d1441339aea39b09c22745fbacc644904d6ef449ee04f", func := "cassone/cassonelaw05.FreqPuts", spec := "freqPuts", apart := false }
def FreqPutsSaid : Prop := freqPutsRow.holds Try.pinned (OpenSpec.ofChange freqPutsSpec)

/-- ITS FALSE NEIGHBOUR: 'it returns false'. Refute it at one input. -/
def freqPutsWrong : ChangeSpec := { name := "freqPuts", fn := fun _ => fun
  | [d1, d2] => { results := [.lit (.bool false)], args := [d1, d2] }
  | _ => none }
def FreqPutsWrongFalsely : Prop := freqPutsRow.holds Try.pinned (OpenSpec.ofChange freqPutsWrong)

/-- 'cassonelaw05.FreqBack': WHATEVER THE INPUT: true; the input reads as it did. -/
def freqBackSpec : ChangeSpec := { name := "freqBack", fn := fun _ => fun
  | [d1, d2] => { results := [.lit (.bool true)], args := [d1, d2] }
  | _ => none }
def freqBackRow : OpenClaim := { program := "ytjfoolhgjnnhgaa", sum := "710b7c7781a24ebae86d1441339aea39b09c22745fbacc644904d6ef449ee04f", func := "cassone/cassonelaw05.FreqBack", spec := "freqBack", apart := false }
def FreqBackSaid : Prop := freqBackRow.holds Try.pinned (OpenSpec.ofChange freqBackSpec)

/-- ITS FALSE NEIGHBOUR: 'it returns false'. Refute it at one input. -/
def freqBackWrong : ChangeSpec := { name := "freqBack", fn := fun _ => fun
  | [d1, d2] => { results := [.lit (.bool false)], args := [d1, d2] }
  | _ => none }
def FreqBackWrongFalsely : Prop := freqBackRow.holds Try.pinned (OpenSpec.ofChange freqBackWrong)

/-- 'cassonelaw06.PacketApplies': WHATEVER THE INPUT: true; the input reads as it did. -/
def packetAppliesSpec : ChangeSpec := { name := "packetApplies", fn := fun _ => fun
  | [d1, d2] => { results := [.lit (.bool true)], args := [d1, d2] }
  | _ => none }
def packetAppliesRow : OpenClaim := { program := "ytjfoolhgjnnhgaa", sum := "710b7c7781a24ebae86d1441339aea39b09c22745fbacc644904d6ef449ee04f", func := "cassone/cassonelaw06.PacketApplies", spec := "packetApplies", apart := false }
def PacketAppliesSaid : Prop := packetAppliesRow.holds Try.pinned (OpenSpec.ofChange packetAppliesSpec)

/-- ITS FALSE NEIGHBOUR: 'it returns false'. Refute it at one input. -/
def packetAppliesWrong : ChangeSpec := { name := "packetApplies", fn := fun _ => fun
  | [d1, d2] => { results := [.lit (.bool false)], args := [d1, d2] }
  | _ => none }
def PacketAppliesWrongFalsely : Prop := packetAppliesRow.holds Try.pinned (OpenSpec.ofChange packetAppliesWrong)

/-- 'cassonelaw06.PacketReps': WHATEVER THE INPUT: true; the input reads as it did. -/
def packetRepsSpec : ChangeSpec := { name := "packetReps", fn := fun _ => fun
  | [d1, d2, d3] => { results := [.lit (.bool true)], args := [d1, d2, d3] }
  | _ => none }
def packetRepsRow : OpenClaim := { program := "ytjfoolhgjnnhgaa", sum := "710b7c7781a24ebae86d1441339aea39b09c22745fbacc644904d6ef449ee04f", func := "cassone/cassonelaw06.PacketReps", spec := "packetReps", apart := false }
def PacketRepsSaid : Prop := packetRepsRow.holds Try.pinned (OpenSpec.ofChange packetRepsSpec)

/-- ITS FALSE NEIGHBOUR: 'it returns false'. Refute it at one input. -/
def packetRepsWrong : ChangeSpec := { name := "packetReps", fn := fun _ => fun
  | [d1, d2, d3] => { results := [.lit (.bool false)], args := [d1, d2, d3] }
  | _ => none }
def PacketRepsWrongFalsely : Prop := packetRepsRow.holds Try.pinned (OpenSpec.ofChange packetRepsWrong)

/-- 'cassonelaw06.PacketCopies': WHATEVER THE INPUT: true; the input reads as it did. -/
def packetCopiesSpec : ChangeSpec := { name := "packetCopies", fn := fun _ => fun
  | [d1, d2] => { results := [.lit (.bool true)], args := [d1, d2] }
  | _ => none }
def packetCopiesRow : OpenClaim := { program := "ytjfoolhgjnnhgaa", sum := "710b7c7781a24ebae86d1441339aea39b09c22745fbacc644904d6ef449ee04f", func := "cassone/cassonelaw06.PacketCopies", spec := "packetCopies", apart := false }
def PacketCopiesSaid : Prop := packetCopiesRow.holds Try.pinned (OpenSpec.ofChange packetCopiesSpec)

/-- ITS FALSE NEIGHBOUR: 'it returns false'. Refute it at one input. -/
def packetCopiesWrong : ChangeSpec := { name := "packetCopies", fn := fun _ => fun
  | [d1, d2] => { results := [.lit (.bool false)], args := [d1, d2] }
  | _ => none }
def PacketCopiesWrongFalsely : Prop := packetCopiesRow.holds Try.pinned (OpenSpec.ofChange packetCopiesWrong)

/- THE SECOND FORM. 'bulk': how many values and letters a reading holds, each counted each time it is reached (what is shared counts as often as it is met; a slice's spare places count too). A statement '..UptoSaid' is the law's where the arguments, and the package variables that the reading takes, are together of bulk at most 1048576: NARROWER than '..Said'. Prove '..Said' where nothing that the law and all that it calls make is longer than what came in: it says more and counts as full. Else prove '..UptoSaid'. A law counts once. -/
mutual
def uptoBulk {H : Type} : DataW H → Nat
  | .lit (.string bytes) => bytes.length + 1
  | .lit _ => 1
  | .nil => 1
  | .ptr d => uptoBulk d + 1
  | .slice elems spare => uptoBulkAll elems + uptoBulkAll spare + 1
  | .agg parts => uptoBulkAll parts + 1
  | .iface _ d => uptoBulk d + 1
  | .map entries => uptoBulkEntries entries + 1
  | .held _ => 1
def uptoBulkAll {H : Type} : List (DataW H) → Nat
  | [] => 0
  | d :: r => uptoBulk d + uptoBulkAll r
def uptoBulkEntries {H : Type} : List (Lit × DataW H) → Nat
  | [] => 0
  | x :: r => uptoBulkEntry x + uptoBulkEntries r
def uptoBulkEntry {H : Type} : Lit × DataW H → Nat
  | (.string bytes, d) => bytes.length + uptoBulk d + 1
  | (_, d) => uptoBulk d + 1
 end
def uptoSmall : (H : Type) → List (DataW H) → Bool := fun _ ds => decide (uptoBulkAll ds ≤ 1048576)
def OpenSpec.upto (s : _root_.Go.ChangeSpec) : _root_.Go.OpenSpec := { _root_.Go.OpenSpec.ofChange s with cond := some uptoSmall }

/-- 'cassonelaw04.ProbsLike', WHERE WHAT IT READS IS OF BULK AT MOST 1048576: true; the input reads as it did. -/
def probsLikeUptoRow : OpenClaim := { program := "ytjfoolhgjnnhgaa", sum := "710b7c7781a24ebae86d1441339aea39b09c22745fbacc644904d6ef449ee04f", func := "cassone/cassonelaw04.ProbsLike", spec := "probsLike", apart := false, narrowed := true }
def ProbsLikeUptoSaid : Prop := probsLikeUptoRow.holds Try.pinned (OpenSpec.upto probsLikeSpec)

/-- 'cassonelaw04.ProbsBack', WHERE WHAT IT READS IS OF BULK AT MOST 1048576: true; the input reads as it did. -/
def probsBackUptoRow : OpenClaim := { program := "ytjfoolhgjnnhgaa", sum := "710b7c7781a24ebae86d1441339aea39b09c22745fbacc644904d6ef449ee04f", func := "cassone/cassonelaw04.ProbsBack", spec := "probsBack", apart := false, narrowed := true }
def ProbsBackUptoSaid : Prop := probsBackUptoRow.holds Try.pinned (OpenSpec.upto probsBackSpec)

/-- 'cassonelaw05.FreqCounts', WHERE WHAT IT READS IS OF BULK AT MOST 1048576: true; the input reads as it did. -/
def freqCountsUptoRow : OpenClaim := { program := "ytjfoolhgjnnhgaa", sum := "710b7c7781a24ebae86d1441339aea39b09c22745fbacc644904d6ef449ee04f", func := "cassone/cassonelaw05.FreqCounts", spec := "freqCounts", apart := false, narrowed := true }
def FreqCountsUptoSaid : Prop := freqCountsUptoRow.holds Try.pinned (OpenSpec.upto freqCountsSpec)

/-- 'cassonelaw05.FreqPuts', WHERE WHAT IT READS IS OF BULK AT MOST 1048576: true; the input reads as it did. -/
def freqPutsUptoRow : OpenClaim := { program := "ytjfoolhgjnnhgaa", sum := "710b7c7781a24ebae86d1441339aea39b09c22745fbacc644904d6ef449ee04f", func := "cassone/cassonelaw05.FreqPuts", spec := "freqPuts", apart := false, narrowed := true }
def FreqPutsUptoSaid : Prop := freqPutsUptoRow.holds Try.pinned (OpenSpec.upto freqPutsSpec)

/-- 'cassonelaw05.FreqBack', WHERE WHAT IT READS IS OF BULK AT MOST 1048576: true; the input reads as it did. -/
def freqBackUptoRow : OpenClaim := { program := "ytjfoolhgjnnhgaa", sum := "710b7c7781a24ebae86d1441339aea39b09c22745fbacc644904d6ef449ee04f", func := "cassone/cassonelaw05.FreqBack", spec := "freqBack", apart := false, narrowed := true }
def FreqBackUptoSaid : Prop := freqBackUptoRow.holds Try.pinned (OpenSpec.upto freqBackSpec)

/-- 'cassonelaw06.PacketApplies', WHERE WHAT IT READS IS OF BULK AT MOST 1048576: true; the input reads as it did. -/
def packetAppliesUptoRow : OpenClaim := { program := "ytjfoolhgjnnhgaa", sum := "710b7c7781a24ebae86d1441339aea39b09c22745fbacc644904d6ef449ee04f", func := "cassone/cassonelaw06.PacketApplies", spec := "packetApplies", apart := false, narrowed := true }
def PacketAppliesUptoSaid : Prop := packetAppliesUptoRow.holds Try.pinned (OpenSpec.upto packetAppliesSpec)

/-- 'cassonelaw06.PacketReps', WHERE WHAT IT READS IS OF BULK AT MOST 1048576: true; the input reads as it did. -/
def packetRepsUptoRow : OpenClaim := { program := "ytjfoolhgjnnhgaa", sum := "710b7c7781a24ebae86d1441339aea39b09c22745fbacc644904d6ef449ee04f", func := "cassone/cassonelaw06.PacketReps", spec := "packetReps", apart := false, narrowed := true }
def PacketRepsUptoSaid : Prop := packetRepsUptoRow.holds Try.pinned (OpenSpec.upto packetRepsSpec)

/-- 'cassonelaw06.PacketCopies', WHERE WHAT IT READS IS OF BULK AT MOST 1048576: true; the input reads as it did. -/
def packetCopiesUptoRow : OpenClaim := { program := "ytjfoolhgjnnhgaa", sum := "710b7c7781a24ebae86d1441339aea39b09c22745fbacc644904d6ef449ee04f", func := "cassone/cassonelaw06.PacketCopies", spec := "packetCopies", apart := false, narrowed := true }
def PacketCopiesUptoSaid : Prop := packetCopiesUptoRow.holds Try.pinned (OpenSpec.upto packetCopiesSpec)

end Rows
end Go.Proofs.Ytjfoolhgjnnhgaa
