/-
  Package model: a packet as bits: contracts of code, got (by gen_code.py).
-/
import Derived.Test.YtollngjnoccmfaaModelCodeA
import Derived.Test.YtollngjnoccmfaaModelRepD
set_option linter.unusedVariables false
namespace Go.Proofs.Ytollngjnoccmfaa.Mo
open Go.RowKit
open Rc
open Pk (Rp Pt)
open Wnd (Win)
section
variable {w : World} {O : Paint} {c cm cw a tot k gb cap nb mo wb wm : Nat} {most : Int} {v : Value} {tb : Nat → Nat → Nat} {s : Es} {d : Ds} {m : Ms}
end
end Go.Proofs.Ytollngjnoccmfaa.Mo
