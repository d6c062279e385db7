/-
  Layer 26, mathematics: the two keys of a known password differ.
-/
import Derived.Test.YtoabeohfbikpcaaDoorKeysDev
import Derived.KernelRfl
namespace Go.Proofs.YtoabeohfbikpcaaDoor.Sh
set_option maxRecDepth 100000 in
theorem keys_end1 : (hmacL (kdf [115, 112] 2) cipherL).take 4 = [212, 141, 183, 138] := by kernel_rfl
set_option maxRecDepth 100000 in
theorem keys_end2 : (hmacL (kdf [115, 112] 2) sumL').take 4 = [252, 174, 8, 190] := by kernel_rfl
end Go.Proofs.YtoabeohfbikpcaaDoor.Sh
