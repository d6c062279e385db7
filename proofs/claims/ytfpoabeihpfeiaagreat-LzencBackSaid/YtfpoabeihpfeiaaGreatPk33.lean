/-
  Layer 10's statement ModelAny: New of params that may not be; packets that are told one after another tell the text (mathematics).
-/
import Derived.Test.YtfpoabeihpfeiaaGreatPk09
import Derived.Test.YtfpoabeihpfeiaaGreatPk32

set_option maxRecDepth 100000
set_option maxHeartbeats 16000000
set_option linter.unusedVariables false
set_option linter.unusedSimpArgs false
namespace Go.Proofs.YtfpoabeihpfeiaaGreat.Mo
open Go.RowKit
open Rc
open Pk (Rp Pt four applyL)
open Pl (flatP)
def Telling (m : Ms) (l : List Pt) : Prop := ∀ k, applyL 2000 (l ++ k) [] ⟨1, 1, 1, 1⟩ = applyL 2000 k m.l m.r
end Go.Proofs.YtfpoabeihpfeiaaGreat.Mo
