/-
  Layer 6's statements: their first lines (speaks) return true, and write nothing that was there.
-/
import Derived.Test.YthdjnbhdgacmgaaPackDo
namespace Go.Proofs.Ythdjnbhdgacmgaa.Pk
open Go.RowKit
def pp : List Pt := [⟨1, 0, 0, 97⟩, ⟨2, 1, 3, 0⟩]
theorem k_apply : applyL 9 pp [] ⟨1, 1, 1, 1⟩ = ([97, 97, 97, 97], 0) := by decide +kernel
theorem pp_at (w : World) : IsPts (w.alloc (.cells #[.int .i64 1, .int .i64 0, .int .i64 0, .int .u8 97, .int .i64 2, .int .i64 1, .int .i64 3, .int .u8 0] 45)) (some ⟨w.heap.size, 0, none⟩) pp := by
  have h := heap_alloc_new w (.cells #[.int .i64 1, .int .i64 0, .int .i64 0, .int .u8 97, .int .i64 2, .int .i64 1, .int .i64 3, .int .u8 0] 45)
  generalize w.alloc (.cells #[.int .i64 1, .int .i64 0, .int .i64 0, .int .u8 97, .int .i64 2, .int .i64 1, .int .i64 3, .int .u8 0] 45) = W1 at *
  generalize w.heap.size = X at *
  refine .inr ⟨_, 0, rfl, fun i hi => ?_⟩
  match i, hi with
  | 0, _ => exact ⟨by simp [World.cell?, h, pp], by simp [World.cell?, h, pp], by simp [World.cell?, h, pp], by simp [World.cell?, h, pp], by simp [pp]⟩
  | 1, _ => exact ⟨by simp [World.cell?, h, pp], by simp [World.cell?, h, pp], by simp [World.cell?, h, pp], by simp [World.cell?, h, pp], by simp [pp]⟩
end Go.Proofs.Ythdjnbhdgacmgaa.Pk
