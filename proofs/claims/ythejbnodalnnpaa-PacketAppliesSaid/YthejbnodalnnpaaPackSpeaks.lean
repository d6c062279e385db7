/-
  Layer 6's statements: their first lines (speaks) return true, and write nothing that was there.
-/
import Derived.Test.YthejbnodalnnpaaPackApply
namespace Go.Proofs.Ythejbnodalnnpaa.Pk
open Go.RowKit
def pp : List Pt := [⟨1, 0, 0, 97⟩, ⟨2, 1, 3, 0⟩]
theorem k_apply : applyL 9 pp [] ⟨1, 1, 1, 1⟩ = ([97, 97, 97, 97], 0) := by decide +kernel
theorem pp_at (w : World) : IsPts (w.alloc (.cells #[.int .i64 1, .int .i64 0, .int .i64 0, .int .u8 97, .int .i64 2, .int .i64 1, .int .i64 3, .int .u8 0] 74)) (some ⟨w.heap.size, 0, none⟩) pp := by
  have h := heap_alloc_new w (.cells #[.int .i64 1, .int .i64 0, .int .i64 0, .int .u8 97, .int .i64 2, .int .i64 1, .int .i64 3, .int .u8 0] 74)
  generalize w.alloc (.cells #[.int .i64 1, .int .i64 0, .int .i64 0, .int .u8 97, .int .i64 2, .int .i64 1, .int .i64 3, .int .u8 0] 74) = W1 at *
  generalize w.heap.size = X at *
  refine .inr ⟨_, 0, rfl, fun i hi => ?_⟩
  match i, hi with
  | 0, _ => exact ⟨by simp [World.cell?, h, pp], by simp [World.cell?, h, pp], by simp [World.cell?, h, pp], by simp [World.cell?, h, pp], by simp [pp]⟩
  | 1, _ => exact ⟨by simp [World.cell?, h, pp], by simp [World.cell?, h, pp], by simp [World.cell?, h, pp], by simp [World.cell?, h, pp], by simp [pp]⟩
set_option maxHeartbeats 1000000 in
theorem speaks6 (w : World) (HREP : ∀ (W : World) (X : Nat), IsPts W (some ⟨X, 0, none⟩) pp → Calls Try.prog 38 #[.slice (some ⟨X, 0, none⟩) 2 2] W fun x w' => ∃ Z, x = .returned (.slice (some ⟨Z, 0, none⟩) 2 2) ∧ Below W.heap.size W w' ∧ W.heap.size ≤ Z ∧ (w'.cell? ⟨Z, 4, none⟩ = some (.int .i64 3) ∧ w'.cell? ⟨Z, 5, none⟩ = some (.int .i64 0) ∧ w'.cell? ⟨Z, 6, none⟩ = some (.int .i64 3) ∧ w'.cell? ⟨Z, 7, none⟩ = some (.int .u8 0))) :
    Calls Try.prog 34 #[] w fun x w' => x = .returned (.bool true) ∧ Below w.heap.size w w' := by
  have HRP := Lib.hid HREP
  clear HREP
  go_enter Try.func34, Try.ntmps34
  go_wp2_with fail
  have HP := Lib.hid (pp_at w)
  have HB := Lib.hid ((Below.refl _ w).alloc (Nat.le_refl _) (.cells #[.int .i64 1, .int .i64 0, .int .i64 0, .int .u8 97, .int .i64 2, .int .i64 1, .int .i64 3, .int .u8 0] 74))
  generalize w.alloc (.cells #[.int .i64 1, .int .i64 0, .int .i64 0, .int .u8 97, .int .i64 2, .int .i64 1, .int .i64 3, .int .u8 0] 74) = W1 at *
  have HAP : Hid (Calls Try.prog 36 #[.slice (some ⟨w.heap.size, 0, none⟩) 2 2, .int .i64 9] W1 fun x w' => x = .returned (.tuple #[.string ⟨#[97, 97, 97, 97]⟩, .int .i64 0]) ∧ Below W1.heap.size W1 w') := by
    have := apply_any HP.out (by decide) 2 9 (by omega)
    rw [show (9 : Int).toNat = 9 from rfl, k_apply] at this
    exact Lib.hid this
  refine HAP.out.mono ?_
  rintro x w2 ⟨rfl, hb2⟩
  have HP2 := Lib.hid (HP.out.below hb2)
  have HB2 := Lib.hid (bel_new hb2 HB.out)
  clear hb2 HP HB HAP
  go_wp2_with fail
  refine (HRP.out w2 _ HP2.out).mono ?_
  rintro x w3 ⟨Z, rfl, hb3, hZ, c0, c1, c2, c3⟩
  have HB3 := Lib.hid (bel_new hb3 HB2.out)
  clear hb3 HB2 HP2 HRP
  go_wp2
  go_ret
  exact ⟨rfl, HB3.out⟩
end Go.Proofs.Ythejbnodalnnpaa.Pk
