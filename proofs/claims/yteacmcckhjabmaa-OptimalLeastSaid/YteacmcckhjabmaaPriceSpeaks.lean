/-
  Layer 15's statements: their first lines return true.
-/
import Derived.Test.YteacmcckhjabmaaPriceOf
import Derived.Test.YteacmcckhjabmaaPriceRef
set_option linter.unusedVariables false
namespace Go.Proofs.Yteacmcckhjabmaa.Pc
open Go.RowKit
open Pk (Pt IsPts IsPt)
def common : Tb := ⟨34, 20, 16, 36, 5⟩
theorem common_good : common.good = true := by decide
theorem common_any (w : World) : Calls Try.prog 14 #[] w fun x w' => x = .returned (.agg #[.int .i64 34, .int .i64 20, .int .i64 16, .int .i64 36, .int .i64 5]) ∧ Below w.heap.size w w' := by
  go_enter Try.func14, Try.ntmps14
  go_wp2_with fail
  have HB := Lib.hid (((Below.refl w.heap.size w).alloc (Nat.le_refl _) (.cells #[.int .i64 34, .int .i64 20, .int .i64 16, .int .i64 36, .int .i64 5] 25)))
  obtain ⟨p0, p1, p2, p3, p4⟩ := five (heap_alloc_new w (.cells #[.int .i64 34, .int .i64 20, .int .i64 16, .int .i64 36, .int .i64 5] 25))
  generalize w.alloc (.cells #[.int .i64 34, .int .i64 20, .int .i64 16, .int .i64 36, .int .i64 5] 25) = W1 at *
  refine bodyPost_ret (v := .agg #[.int .i64 34, .int .i64 20, .int .i64 16, .int .i64 36, .int .i64 5]) ?_ rfl ?_
  · simp [results, Try.results14, go_sem, p0, p1, p2, p3, p4]
  · exact ⟨rfl, HB.out⟩
def mb : List Pt := [⟨2, 3, 4, 0⟩, ⟨1, 0, 0, 0⟩]
theorem mb_at (w : World) : IsPts (w.alloc (.cells #[.int .i64 2, .int .i64 3, .int .i64 4, .int .u8 0, .int .i64 1, .int .i64 0, .int .i64 0, .int .u8 0] 32)) (some ⟨w.heap.size, 0, none⟩) mb := by
  have h := heap_alloc_new w (.cells #[.int .i64 2, .int .i64 3, .int .i64 4, .int .u8 0, .int .i64 1, .int .i64 0, .int .i64 0, .int .u8 0] 32)
  generalize w.alloc (.cells #[.int .i64 2, .int .i64 3, .int .i64 4, .int .u8 0, .int .i64 1, .int .i64 0, .int .i64 0, .int .u8 0] 32) = W1 at *
  generalize w.heap.size = X at *
  refine .inr ⟨_, 0, rfl, fun i hi => ?_⟩
  match i, hi with
  | 0, _ => exact ⟨by simp [World.cell?, h, mb], by simp [World.cell?, h, mb], by simp [World.cell?, h, mb], by simp [World.cell?, h, mb], by simp [mb]⟩
  | 1, _ => exact ⟨by simp [World.cell?, h, mb], by simp [World.cell?, h, mb], by simp [World.cell?, h, mb], by simp [World.cell?, h, mb], by simp [mb]⟩
theorem mb_go : common.go 0 mb = some 80 := by decide +kernel
end Go.Proofs.Yteacmcckhjabmaa.Pc
