/-
  Package model: lengths as bits, got: the cases.
-/
import Derived.Test.YtollngjnoccmfaaModelBase
import Derived.Deep.RegionHeld3
import Derived.BigRegion
import Derived.StillTailTactics
set_option linter.unusedVariables false
namespace Go.Proofs.Ytollngjnoccmfaa.Mo
open Go.RowKit
open Rc
section
variable {w : World} {O : Paint} {c cm a tot k gb cap nb : Nat} {tb : Nat → Nat → Nat} {s : Es} {d : Ds}
end
end Go.Proofs.Ytollngjnoccmfaa.Mo
