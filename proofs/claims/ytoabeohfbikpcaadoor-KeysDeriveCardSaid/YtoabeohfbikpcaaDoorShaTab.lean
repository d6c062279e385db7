/-
  The table of layer 23's constants, as a row lists it: what a world that meets the list holds, and a world that does.
-/
import Derived.Test.YtoabeohfbikpcaaDoorShaAll
import Derived.Test.YtoabeohfbikpcaaDoorCards
import Derived.Test.YtoabeohfbikpcaaDoorTie
import Derived.WalkKit
import Derived.ProofKit
import Derived.OpenShut
import Derived.Deep.DeepHandedRow
import Derived.Lib.LaidTab
set_option linter.unusedVariables false
namespace Go.Proofs.YtoabeohfbikpcaaDoor.Sh
open Go.ChangeShapes Go.WideShapes Go.ChangeAt Go.RowKit
theorem gTab : Tryd.prog.globalNamed "cassone/sha.constants" = some 0 := by kernel_rfl
theorem gTabType : (Tryd.prog.globals[0]?).map (·.type) = some 42 := by kernel_rfl
theorem cellsTab : Tryd.prog.cellsOf 42 = 64 := by kernel_rfl
theorem cellsWord : Tryd.prog.cellsOf 37 = 1 := by kernel_rfl
def ksI : List Int := [1116352408, 1899447441, 3049323471, 3921009573, 961987163, 1508970993, 2453635748, 2870763221, 3624381080, 310598401, 607225278, 1426881987, 1925078388, 2162078206, 2614888103, 3248222580, 3835390401, 4022224774, 264347078, 604807628, 770255983, 1249150122, 1555081692, 1996064986, 2554220882, 2821834349, 2952996808, 3210313671, 3336571891, 3584528711, 113926993, 338241895, 666307205, 773529912, 1294757372, 1396182291, 1695183700, 1986661051, 2177026350, 2456956037, 2730485921, 2820302411, 3259730800, 3345764771, 3516065817, 3600352804, 4094571909, 275423344, 430227734, 506948616, 659060556, 883997877, 958139571, 1322822218, 1537002063, 1747873779, 1955562222, 2024104815, 2227730452, 2361852424, 2428436474, 2756734187, 3204031479, 3329325298]
theorem ksI_is : ksI = kL.map fun n : Nat => (n : Int) := by rw [kL_is]; rfl
theorem laidTab {W : World} (h : laidMetH Tryd.prog [("cassone/sha.constants", Rows.laid_cassone_sha_constants)] W) : Lib.TabIs Tryd.prog W "cassone/sha.constants" .u32 ksI :=
  Lib.tabIs_of_head (rest := []) gTab gTabType Tryd.underlying42 Tryd.underlying37 cellsWord cellsTab h
theorem laidKs {W : World} (h : laidMetH Tryd.prog [("cassone/sha.constants", Rows.laid_cassone_sha_constants)] W) : Ks W ∧ 0 < W.heap.size := by
  have ht := laidTab h
  have hk : Ks W := fun i hi => by
    have := ht.cell gTab i (by show i < 64; exact hi)
    rw [this, ksI_is, List.getD_eq_getElem?_getD, List.getElem?_map, List.getD_eq_getElem?_getD]
    have hl : i < kL.length := hi
    rw [List.getElem?_eq_getElem hl]
    rfl
  refine ⟨hk, ?_⟩
  have h0 := hk 0 (by decide)
  rcases Nat.eq_zero_or_pos W.heap.size with h | h
  · unfold World.cell? at h0
    rw [Array.getElem?_eq_none (by show W.heap.size ≤ 0; omega)] at h0
    cases h0
  · exact h
/-- A world for a witness: the settled one, the table holding what its initialiser lays. -/
noncomputable def laidWorld (os : Os) : World :=
  { World.holding Tryd.prog os ⟨#[], #[], []⟩ with heap := (World.holding Tryd.prog os ⟨#[], #[], []⟩).heap.modify 0 fun
      | .cells _ t frozen => .cells (ksI.map fun z => Value.int .u32 z).toArray t frozen
      | o => o }
end Go.Proofs.YtoabeohfbikpcaaDoor.Sh
