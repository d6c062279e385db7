/-
  The walk of the statement PacketReps.
-/
import Derived.Test.YthdjnbhdgacmgaaPackSpeaks
import Derived.Test.YthdjnbhdgacmgaaPackEq
import Derived.Deep.DeepCutAuto
import Derived.Deep.RegionHeld3
namespace Go.Proofs.Ythdjnbhdgacmgaa.Pk
open Go.RowKit
/-- The first place behind k where a distance lies. -/
def Rp.from (r : Rp) (x : Int) (k : Int) : Int × Bool := if k < 0 ∧ r.a = x then (0, true) else if k < 1 ∧ r.b = x then (1, true) else if k < 2 ∧ r.c = x then (2, true) else if k < 3 ∧ r.d = x then (3, true) else (0, false)
theorem from_start (r : Rp) (x : Int) : r.from x 3 = (0, false) := by unfold Rp.from; simp
theorem from_end (r : Rp) (x : Int) : r.from x (-1) = r.find x := by unfold Rp.from Rp.find; simp
theorem from_hit (r : Rp) (x k : Int) (hk : 0 ≤ k ∧ k ≤ 3) (h : r.at k = x) : r.from x (k - 1) = (k, true) := by
  unfold Rp.at at h
  unfold Rp.from
  rcases (show k = 0 ∨ k = 1 ∨ k = 2 ∨ k = 3 by omega) with rfl | rfl | rfl | rfl <;> simp at h <;> simp [h]
theorem from_miss (r : Rp) (x k : Int) (hk : 0 ≤ k ∧ k ≤ 3) (h : r.at k ≠ x) : r.from x (k - 1) = r.from x k := by
  unfold Rp.at at h
  unfold Rp.from
  rcases (show k = 0 ∨ k = 1 ∨ k = 2 ∨ k = 3 by omega) with rfl | rfl | rfl | rfl <;> simp at h <;> simp [h]
abbrev Rep1 : Prop := ∀ (W : World) (X : Nat), IsPts W (some ⟨X, 0, none⟩) pp → Calls Try.prog 49 #[.slice (some ⟨X, 0, none⟩) 2 2] W fun x w' => ∃ Z, x = .returned (.slice (some ⟨Z, 0, none⟩) 2 2) ∧ Below W.heap.size W w' ∧ W.heap.size ≤ Z ∧ (w'.cell? ⟨Z, 4, none⟩ = some (.int .i64 3) ∧ w'.cell? ⟨Z, 5, none⟩ = some (.int .i64 0) ∧ w'.cell? ⟨Z, 6, none⟩ = some (.int .i64 3) ∧ w'.cell? ⟨Z, 7, none⟩ = some (.int .u8 0))
end Go.Proofs.Ythdjnbhdgacmgaa.Pk
