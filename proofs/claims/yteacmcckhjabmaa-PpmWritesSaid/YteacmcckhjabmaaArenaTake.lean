/-
  Package arena, of a type of numbers: the contracts of the methods that take cells, and free them.
-/
import Derived.Test.YteacmcckhjabmaaArena
import Derived.Test.YteacmcckhjabmaaTails
set_option linter.unusedVariables false
set_option linter.unusedSimpArgs false
namespace Go.Proofs.Yteacmcckhjabmaa.Ar
open Go.RowKit
open Rc
section
variable {cs : List Nat} {w w' : World} {O O' : Paint} {c1 c2 c3 c4 a : Nat} {z : Aren} {B : Nat → Nat} {A : Nat → Array Value} {vp vf : Value}
-- BEGIN free
-- END free
-- BEGIN old
-- END old
-- BEGIN page
-- END page
-- BEGIN take
-- END take
-- BEGIN fre
theorem infoIn : (Try.prog.info? 3).map (fun i => (i.zero, i.size, i.bytes)) = some (some (.int .i64 0), 1, 8) := by kernel_rfl
-- END fre
end
end Go.Proofs.Yteacmcckhjabmaa.Ar
