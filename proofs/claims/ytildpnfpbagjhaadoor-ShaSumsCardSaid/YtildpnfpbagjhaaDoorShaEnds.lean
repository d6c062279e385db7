/-
  Layer 23, mathematics: two known sums.
-/
import Derived.Test.YtildpnfpbagjhaaDoorShaSum
import Derived.KernelRfl
namespace Go.Proofs.YtildpnfpbagjhaaDoor.Sh
set_option maxRecDepth 100000 in
theorem empty_ends : (shaL []).take 4 = [227, 176, 196, 66] := by kernel_rfl
set_option maxRecDepth 100000 in
theorem abc_ends : (shaL [97, 98, 99]).take 4 = [186, 120, 22, 191] := by kernel_rfl
end Go.Proofs.YtildpnfpbagjhaaDoor.Sh
