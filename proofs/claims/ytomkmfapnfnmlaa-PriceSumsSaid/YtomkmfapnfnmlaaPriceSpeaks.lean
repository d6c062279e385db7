/-
  Layer 15's statements: their first lines return true.
-/
import Derived.Test.YtomkmfapnfnmlaaPriceOf
import Derived.Test.YtomkmfapnfnmlaaPriceRef
set_option linter.unusedVariables false
namespace Go.Proofs.Ytomkmfapnfnmlaa.Pc
open Go.RowKit
open Pk (Pt IsPts IsPt)
def common : Tb := ⟨34, 20, 16, 36, 5⟩
theorem common_good : common.good = true := by decide
theorem common_any (w : World) : Calls Try.prog 42 #[] w fun x w' => x = .returned (.agg #[.int .i64 34, .int .i64 20, .int .i64 16, .int .i64 36, .int .i64 5]) ∧ Below w.heap.size w w' := by
  go_enter Try.func42, Try.ntmps42
  go_wp2_with fail
  have HB := Lib.hid (((Below.refl w.heap.size w).alloc (Nat.le_refl _) (.cells #[.int .i64 34, .int .i64 20, .int .i64 16, .int .i64 36, .int .i64 5] 43)))
  obtain ⟨p0, p1, p2, p3, p4⟩ := five (heap_alloc_new w (.cells #[.int .i64 34, .int .i64 20, .int .i64 16, .int .i64 36, .int .i64 5] 43))
  generalize w.alloc (.cells #[.int .i64 34, .int .i64 20, .int .i64 16, .int .i64 36, .int .i64 5] 43) = W1 at *
  refine bodyPost_ret (v := .agg #[.int .i64 34, .int .i64 20, .int .i64 16, .int .i64 36, .int .i64 5]) ?_ rfl ?_
  · simp [results, Try.results42, go_sem, p0, p1, p2, p3, p4]
  · exact ⟨rfl, HB.out⟩
def mb : List Pt := [⟨2, 3, 4, 0⟩, ⟨1, 0, 0, 0⟩]
theorem mb_at (w : World) : IsPts (w.alloc (.cells #[.int .i64 2, .int .i64 3, .int .i64 4, .int .u8 0, .int .i64 1, .int .i64 0, .int .i64 0, .int .u8 0] 37)) (some ⟨w.heap.size, 0, none⟩) mb := by
  have h := heap_alloc_new w (.cells #[.int .i64 2, .int .i64 3, .int .i64 4, .int .u8 0, .int .i64 1, .int .i64 0, .int .i64 0, .int .u8 0] 37)
  generalize w.alloc (.cells #[.int .i64 2, .int .i64 3, .int .i64 4, .int .u8 0, .int .i64 1, .int .i64 0, .int .i64 0, .int .u8 0] 37) = W1 at *
  generalize w.heap.size = X at *
  refine .inr ⟨_, 0, rfl, fun i hi => ?_⟩
  match i, hi with
  | 0, _ => exact ⟨by simp [World.cell?, h, mb], by simp [World.cell?, h, mb], by simp [World.cell?, h, mb], by simp [World.cell?, h, mb], by simp [mb]⟩
  | 1, _ => exact ⟨by simp [World.cell?, h, mb], by simp [World.cell?, h, mb], by simp [World.cell?, h, mb], by simp [World.cell?, h, mb], by simp [mb]⟩
theorem mb_go : common.go 0 mb = some 80 := by decide +kernel
set_option maxHeartbeats 2000000 in
theorem speaks15 (w : World) : Calls Try.prog 13 #[] w fun x w' => x = .returned (.bool true) ∧ Below w.heap.size w w' := by
  have HGD := Lib.hid (good_any common)
  rw [common_good] at HGD
  go_enter Try.func13, Try.ntmps13
  go_wp2_with fail
  refine (common_any _).mono ?_
  rintro x w1 ⟨rfl, hb1⟩
  have HB1 := Lib.hid hb1
  clear hb1
  go_wp2_with fail
  have HP := Lib.hid (mb_at w1)
  have HB2 := Lib.hid (Pk.bel_alloc (.cells #[.int .i64 2, .int .i64 3, .int .i64 4, .int .u8 0, .int .i64 1, .int .i64 0, .int .i64 0, .int .u8 0] 37) HB1.out)
  generalize w1.alloc (.cells #[.int .i64 2, .int .i64 3, .int .i64 4, .int .u8 0, .int .i64 1, .int .i64 0, .int .i64 0, .int .u8 0] 37) = W2 at *
  have HOF : Hid (Calls Try.prog 20 #[.agg #[.int .i64 34, .int .i64 20, .int .i64 16, .int .i64 36, .int .i64 5], .slice (some ⟨w1.heap.size, 0, none⟩) 2 2] W2 fun x w' => x = .returned (.tuple #[.int .i64 80, .bool true]) ∧ Below W2.heap.size W2 w') := by
    have := of_any common common_good HP.out (by decide) (by decide) 2
    rw [mb_go] at this
    exact Lib.hid this
  refine HOF.out.mono ?_
  rintro x w3 ⟨rfl, hb3⟩
  have HB3 := Lib.hid (Pk.bel_new hb3 HB2.out)
  clear hb3 HB2 HB1 HP HOF
  go_wp2_with fail
  refine (common_any _).mono ?_
  rintro x w4 ⟨rfl, hb4⟩
  have HB4 := Lib.hid (Pk.bel_new hb4 HB3.out)
  clear hb4 HB3
  go_wp2_with fail
  refine (show Calls Try.prog 14 #[.agg #[.int .i64 34, .int .i64 20, .int .i64 16, .int .i64 36, .int .i64 5]] w4 _ from HGD.out w4).mono ?_
  rintro x w5 ⟨rfl, hb5⟩
  have HB5 := Lib.hid (Pk.bel_new hb5 HB4.out)
  clear hb5 HB4
  go_wp2_with fail
  go_ret
  exact ⟨rfl, HB5.out⟩
end Go.Proofs.Ytomkmfapnfnmlaa.Pc
