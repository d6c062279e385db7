/-
  No cell of these rows narrows 'for every input' (looked for: loops, veiled, ifaces, maps, wideKeys, modest, calm, conditions, laid).
  DERIVED. THE GIVEN ROWS OF THIS SEAT. 7 by the template 'for every input the law returns true; each argument reads behind the call as it read before'; 0 by the template 'total and deterministic' (their statements: YtakbocaemlgbaaaTotals.lean).
  GIVEN WITH THE SEED: the statements are not yours to turn. If you find one false, say at which input.
  Laid BY PROGRAM, IN A SANDBOX (cutbox-rows.mjs): the forced cells as the released guide's own fill.sh prints them over the translation be4414d9839e9c27… (all of the seat's roots in one cut). By AI agents, Wed Nov 11 2026. No macro, syntax, notation, axiom, sorry.
-/
import Derived.Test.YtakbocaemlgbaaaChecked
import GoSem.Claim
import GoSem.ClaimJoined
import GoSem.ClaimMapViews
import Derived.JoinedTies
import Derived.KernelRfl
namespace Go.Proofs.Ytakbocaemlgbaaa
/- THE CELL 'sum', in the pinned program and in every row, IS THE sha256 OF THE DUMP (.gsa) THAT YtakbocaemlgbaaaProg.lean LOADS. Nothing in Lean hashes anything: it is a label: what it is worth is what the hold of that sum in a sandbox is worth. -/
noncomputable def Try.pinned : Pinned := { name := "ytakbocaemlgbaaa", sum := "be4414d9839e9c278b5df8c61d90346cc28b7cfd59bb7600b52ca069aba866d8", checked := Try.checked }
namespace Rows
def none {H : Type} : Left H := { results := [], args := [] }

/-- 'cassonelaw08.BstFinds': WHATEVER THE INPUT: true; the input reads as it did. -/
def bstFindsSpec : ChangeSpec := { name := "bstFinds", fn := fun _ => fun
  | [d1, d2] => { results := [.lit (.bool true)], args := [d1, d2] }
  | _ => none }
def bstFindsRow : OpenClaim := { program := "ytakbocaemlgbaaa", sum := "be4414d9839e9c278b5df8c61d90346cc28b7cfd59bb7600b52ca069aba866d8", func := "cassone/cassonelaw08.BstFinds", spec := "bstFinds", unfollowed := true, recurses := true, plainKeys := false, apart := false }
def BstFindsSaid : Prop := bstFindsRow.holds Try.pinned (OpenSpec.ofChange bstFindsSpec)

/-- ITS FALSE NEIGHBOUR: 'it returns false'. Refute it at one input. -/
def bstFindsWrong : ChangeSpec := { name := "bstFinds", fn := fun _ => fun
  | [d1, d2] => { results := [.lit (.bool false)], args := [d1, d2] }
  | _ => none }
def BstFindsWrongFalsely : Prop := bstFindsRow.holds Try.pinned (OpenSpec.ofChange bstFindsWrong)

/-- 'cassonelaw08.BstLong': WHATEVER THE INPUT: true; the input reads as it did. -/
def bstLongSpec : ChangeSpec := { name := "bstLong", fn := fun _ => fun
  | [d1, d2] => { results := [.lit (.bool true)], args := [d1, d2] }
  | _ => none }
def bstLongRow : OpenClaim := { program := "ytakbocaemlgbaaa", sum := "be4414d9839e9c278b5df8c61d90346cc28b7cfd59bb7600b52ca069aba866d8", func := "cassone/cassonelaw08.BstLong", spec := "bstLong", unfollowed := true, recurses := true, plainKeys := false, apart := false }
def BstLongSaid : Prop := bstLongRow.holds Try.pinned (OpenSpec.ofChange bstLongSpec)

/-- ITS FALSE NEIGHBOUR: 'it returns false'. Refute it at one input. -/
def bstLongWrong : ChangeSpec := { name := "bstLong", fn := fun _ => fun
  | [d1, d2] => { results := [.lit (.bool false)], args := [d1, d2] }
  | _ => none }
def BstLongWrongFalsely : Prop := bstLongRow.holds Try.pinned (OpenSpec.ofChange bstLongWrong)

/-- 'cassonelaw08.BstChain': WHATEVER THE INPUT: true; the input reads as it did. -/
def bstChainSpec : ChangeSpec := { name := "bstChain", fn := fun _ => fun
  | [d1, d2] => { results := [.lit (.bool true)], args := [d1, d2] }
  | _ => none }
def bstChainRow : OpenClaim := { program := "ytakbocaemlgbaaa", sum := "be4414d9839e9c278b5df8c61d90346cc28b7cfd59bb7600b52ca069aba866d8", func := "cassone/cassonelaw08.BstChain", spec := "bstChain", unfollowed := true, recurses := true, plainKeys := false, apart := false }
def BstChainSaid : Prop := bstChainRow.holds Try.pinned (OpenSpec.ofChange bstChainSpec)

/-- ITS FALSE NEIGHBOUR: 'it returns false'. Refute it at one input. -/
def bstChainWrong : ChangeSpec := { name := "bstChain", fn := fun _ => fun
  | [d1, d2] => { results := [.lit (.bool false)], args := [d1, d2] }
  | _ => none }
def BstChainWrongFalsely : Prop := bstChainRow.holds Try.pinned (OpenSpec.ofChange bstChainWrong)

/-- 'cassonelaw09.StateNext': WHATEVER THE INPUT: true; the input reads as it did. -/
def stateNextSpec : ChangeSpec := { name := "stateNext", fn := fun _ => fun
  | [d1, d2] => { results := [.lit (.bool true)], args := [d1, d2] }
  | _ => none }
def stateNextRow : OpenClaim := { program := "ytakbocaemlgbaaa", sum := "be4414d9839e9c278b5df8c61d90346cc28b7cfd59bb7600b52ca069aba866d8", func := "cassone/cassonelaw09.StateNext", spec := "stateNext", plainKeys := false, apart := false }
def StateNextSaid : Prop := stateNextRow.holds Try.pinned (OpenSpec.ofChange stateNextSpec)

/-- ITS FALSE NEIGHBOUR: 'it returns false'. Refute it at one input. -/
def stateNextWrong : ChangeSpec := { name := "stateNext", fn := fun _ => fun
  | [d1, d2] => { results := [.lit (.bool false)], args := [d1, d2] }
  | _ => none }
def StateNextWrongFalsely : Prop := stateNextRow.holds Try.pinned (OpenSpec.ofChange stateNextWrong)

/-- 'cassonelaw09.StateSlots': WHATEVER THE INPUT: true; the input reads as it did. -/
def stateSlotsSpec : ChangeSpec := { name := "stateSlots", fn := fun _ => fun
  | [d1, d2, d3] => { results := [.lit (.bool true)], args := [d1, d2, d3] }
  | _ => none }
def stateSlotsRow : OpenClaim := { program := "ytakbocaemlgbaaa", sum := "be4414d9839e9c278b5df8c61d90346cc28b7cfd59bb7600b52ca069aba866d8", func := "cassone/cassonelaw09.StateSlots", spec := "stateSlots", plainKeys := false, apart := false }
def StateSlotsSaid : Prop := stateSlotsRow.holds Try.pinned (OpenSpec.ofChange stateSlotsSpec)

/-- ITS FALSE NEIGHBOUR: 'it returns false'. Refute it at one input. -/
def stateSlotsWrong : ChangeSpec := { name := "stateSlots", fn := fun _ => fun
  | [d1, d2, d3] => { results := [.lit (.bool false)], args := [d1, d2, d3] }
  | _ => none }
def StateSlotsWrongFalsely : Prop := stateSlotsRow.holds Try.pinned (OpenSpec.ofChange stateSlotsWrong)

/-- 'cassonelaw10.ModelBack': WHATEVER THE INPUT: true; the input reads as it did. -/
def modelBackSpec : ChangeSpec := { name := "modelBack", fn := fun _ => fun
  | [d1, d2] => { results := [.lit (.bool true)], args := [d1, d2] }
  | _ => none }
def modelBackRow : OpenClaim := { program := "ytakbocaemlgbaaa", sum := "be4414d9839e9c278b5df8c61d90346cc28b7cfd59bb7600b52ca069aba866d8", func := "cassone/cassonelaw10.ModelBack", spec := "modelBack", unfollowed := true, recurses := true, plainKeys := false, apart := false }
def ModelBackSaid : Prop := modelBackRow.holds Try.pinned (OpenSpec.ofChange modelBackSpec)

/-- ITS FALSE NEIGHBOUR: 'it returns false'. Refute it at one input. -/
def modelBackWrong : ChangeSpec := { name := "modelBack", fn := fun _ => fun
  | [d1, d2] => { results := [.lit (.bool false)], args := [d1, d2] }
  | _ => none }
def ModelBackWrongFalsely : Prop := modelBackRow.holds Try.pinned (OpenSpec.ofChange modelBackWrong)

/-- 'cassonelaw10.ModelAny': WHATEVER THE INPUT: true; the input reads as it did. -/
def modelAnySpec : ChangeSpec := { name := "modelAny", fn := fun _ => fun
  | [d1, d2, d3] => { results := [.lit (.bool true)], args := [d1, d2, d3] }
  | _ => none }
def modelAnyRow : OpenClaim := { program := "ytakbocaemlgbaaa", sum := "be4414d9839e9c278b5df8c61d90346cc28b7cfd59bb7600b52ca069aba866d8", func := "cassone/cassonelaw10.ModelAny", spec := "modelAny", unfollowed := true, recurses := true, plainKeys := false, apart := false }
def ModelAnySaid : Prop := modelAnyRow.holds Try.pinned (OpenSpec.ofChange modelAnySpec)

/-- ITS FALSE NEIGHBOUR: 'it returns false'. Refute it at one input. -/
def modelAnyWrong : ChangeSpec := { name := "modelAny", fn := fun _ => fun
  | [d1, d2, d3] => { results := [.lit (.bool false)], args := [d1, d2, d3] }
  | _ => none }
def ModelAnyWrongFalsely : Prop := modelAnyRow.holds Try.pinned (OpenSpec.ofChange modelAnyWrong)

/- THE SECOND FORM. 'bulk': how many values and letters a reading holds, each counted each time it is reached (what is shared counts as often as it is met; a slice's spare places count too). A statement '..UptoSaid' is the law's where the arguments, and the package variables that the reading takes, are together of bulk at most 1048576: NARROWER than '..Said'. Prove '..Said' where nothing that the law and all that it calls make is longer than what came in: it says more and counts as full. Else prove '..UptoSaid'. A law counts once. -/
mutual
def uptoBulk {H : Type} : DataW H → Nat
  | .lit (.string bytes) => bytes.length + 1
  | .lit _ => 1
  | .nil => 1
  | .ptr d => uptoBulk d + 1
  | .slice elems spare => uptoBulkAll elems + uptoBulkAll spare + 1
  | .agg parts => uptoBulkAll parts + 1
  | .iface _ d => uptoBulk d + 1
  | .map entries => uptoBulkEntries entries + 1
  | .held _ => 1
def uptoBulkAll {H : Type} : List (DataW H) → Nat
  | [] => 0
  | d :: r => uptoBulk d + uptoBulkAll r
def uptoBulkEntries {H : Type} : List (Lit × DataW H) → Nat
  | [] => 0
  | x :: r => uptoBulkEntry x + uptoBulkEntries r
def uptoBulkEntry {H : Type} : Lit × DataW H → Nat
  | (.string bytes, d) => bytes.length + uptoBulk d + 1
  | (_, d) => uptoBulk d + 1
 end
def uptoSmall : (H : Type) → List (DataW H) → Bool := fun _ ds => decide (uptoBulkAll ds ≤ 1048576)
def OpenSpec.upto (s : _root_.Go.ChangeSpec) : _root_.Go.OpenSpec := { _root_.Go.OpenSpec.ofChange s with cond := some uptoSmall }

/-- 'cassonelaw08.BstFinds', WHERE WHAT IT READS IS OF BULK AT MOST 1048576: true; the input reads as it did. -/
def bstFindsUptoRow : OpenClaim := { program := "ytakbocaemlgbaaa", sum := "be4414d9839e9c278b5df8c61d90346cc28b7cfd59bb7600b52ca069aba866d8", func := "cassone/cassonelaw08.BstFinds", spec := "bstFinds", unfollowed := true, recurses := true, plainKeys := false, apart := false, narrowed := true }
def BstFindsUptoSaid : Prop := bstFindsUptoRow.holds Try.pinned (OpenSpec.upto bstFindsSpec)

/-- 'cassonelaw08.BstLong', WHERE WHAT IT READS IS OF BULK AT MOST 1048576: true; the input reads as it did. -/
def bstLongUptoRow : OpenClaim := { program := "ytakbocaemlgbaaa", sum := "be4414d9839e9c278b5df8c61d90346cc28b7cfd59bb7600b52ca069aba866d8", func := "cassone/cassonelaw08.BstLong", spec := "bstLong", unfollowed := true, recurses := true, plainKeys := false, apart := false, narrowed := true }
def BstLongUptoSaid : Prop := bstLongUptoRow.holds Try.pinned (OpenSpec.upto bstLongSpec)

/-- 'cassonelaw08.BstChain', WHERE WHAT IT READS IS OF BULK AT MOST 1048576: true; the input reads as it did. -/
def bstChainUptoRow : OpenClaim := { program := "ytakbocaemlgbaaa", sum := "be4414d9839e9c278b5df8c61d90346cc28b7cfd59bb7600b52ca069aba866d8", func := "cassone/cassonelaw08.BstChain", spec := "bstChain", unfollowed := true, recurses := true, plainKeys := false, apart := false, narrowed := true }
def BstChainUptoSaid : Prop := bstChainUptoRow.holds Try.pinned (OpenSpec.upto bstChainSpec)

/-- 'cassonelaw09.StateNext', WHERE WHAT IT READS IS OF BULK AT MOST 1048576: true; the input reads as it did. -/
def stateNextUptoRow : OpenClaim := { program := "ytakbocaemlgbaaa", sum := "be4414d9839e9c278b5df8c61d90346cc28b7cfd59bb7600b52ca069aba866d8", func := "cassone/cassonelaw09.StateNext", spec := "stateNext", plainKeys := false, apart := false, narrowed := true }
def StateNextUptoSaid : Prop := stateNextUptoRow.holds Try.pinned (OpenSpec.upto stateNextSpec)

/-- 'cassonelaw09.StateSlots', WHERE WHAT IT READS IS OF BULK AT MOST 1048576: true; the input reads as it did. -/
def stateSlotsUptoRow : OpenClaim := { program := "ytakbocaemlgbaaa", sum := "be4414d9839e9c278b5df8c61d90346cc28b7cfd59bb7600b52ca069aba866d8", func := "cassone/cassonelaw09.StateSlots", spec := "stateSlots", plainKeys := false, apart := false, narrowed := true }
def StateSlotsUptoSaid : Prop := stateSlotsUptoRow.holds Try.pinned (OpenSpec.upto stateSlotsSpec)

/-- 'cassonelaw10.ModelBack', WHERE WHAT IT READS IS OF BULK AT MOST 1048576: true; the input reads as it did. -/
def modelBackUptoRow : OpenClaim := { program := "ytakbocaemlgbaaa", sum := "be4414d9839e9c278b5df8c61d90346cc28b7cfd59bb7600b52ca069aba866d8", func := "cassone/cassonelaw10.ModelBack", spec := "modelBack", unfollowed := true, recurses := true, plainKeys := false, apart := false, narrowed := true }
def ModelBackUptoSaid : Prop := modelBackUptoRow.holds Try.pinned (OpenSpec.upto modelBackSpec)

/-- 'cassonelaw10.ModelAny', WHERE WHAT IT READS IS OF BULK AT MOST 1048576: true; the input reads as it did. -/
def modelAnyUptoRow : OpenClaim := { program := "ytakbocaemlgbaaa", sum := "be4414d9839e9c278b5df8c61d90346cc28b7cfd59bb7600b52ca069aba866d8", func := "cassone/cassonelaw10.ModelAny", spec := "modelAny", unfollowed := true, recurses := true, plainKeys := false, apart := false, narrowed := true }
def ModelAnyUptoSaid : Prop := modelAnyUptoRow.holds Try.pinned (OpenSpec.upto modelAnySpec)

end Rows
end Go.Proofs.Ytakbocaemlgbaaa
