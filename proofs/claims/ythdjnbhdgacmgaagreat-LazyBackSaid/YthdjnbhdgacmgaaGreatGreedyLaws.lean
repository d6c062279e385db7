/-
  Layer 13's statements: their first lines return true; packets in a row.
-/
import Derived.Test.YthdjnbhdgacmgaaGreatGreedyDev
set_option linter.unusedVariables false
namespace Go.Proofs.YthdjnbhdgacmgaaGreat.Gr
open Go.RowKit
open Mt
open Ch (foundL bt abc abc_size)
open Pk (Rp Pt IsPts repL)
theorem told_abc : told abc (best abc 99 9) = [⟨1, 0, 0, 97⟩, ⟨1, 0, 0, 98⟩, ⟨1, 0, 0, 99⟩, ⟨2, 3, 3, 0⟩, ⟨1, 0, 0, 100⟩] := by kernel_rfl
theorem eq_pp (k d n : Int) (b : Nat) (w : World) : (Op.equalIn 10000 49 (.agg #[.int .i64 k, .int .i64 d, .int .i64 n, .int .u8 (b : Int)]) (.agg #[.int .i64 k, .int .i64 d, .int .i64 n, .int .u8 (b : Int)])).run Tryz.prog w = .ok true w := by
  rw [run_equalIn_struct (P := Tryz.prog) w 9999 49 _ _ (by kernel_rfl) (by kernel_rfl)]
  simp [go_sem, Tryz.underlying49, Tryz.underlying3, Tryz.underlying5]
set_option maxRecDepth 100000 in
set_option maxHeartbeats 2000000 in
theorem speaks13 (w : World) : Calls Tryz.prog 31 #[] w fun x w' => x = .returned (.bool true) ∧ Below w.heap.size w w' := by
  have HG := Lib.hid (greedy_any abc 99 9 w (by rw [abc_size]; omega) (by omega) (by omega) (by omega))
  rw [told_abc] at HG
  go_enter Tryz.func31, Tryz.ntmps31
  go_wp2_with fail
  refine (show Calls Tryz.prog 32 #[.string ⟨#[97, 98, 99, 97, 98, 99, 100]⟩, .int .i64 99, .int .i64 9] w _ from HG.out).mono ?_
  rintro x w1 ⟨Z, rfl, hb, hI⟩
  have HB := Lib.hid hb
  rcases hI with h | ⟨z, o, hz, hI⟩
  · simp at h
  · simp only [Option.some.injEq, Addr.mk.injEq, and_true] at hz
    obtain ⟨rfl, rfl⟩ := hz
    obtain ⟨a0, a1, a2, a3, _⟩ := hI 3 (by decide)
    obtain ⟨b0, b1, b2, b3, _⟩ := hI 4 (by decide)
    simp at a0 a1 a2 a3 b0 b1 b2 b3
    have hq := eq_pp 2 3 3 0
    clear hb hI HG
    go_wp2_with fail
    go_ret
    exact ⟨rfl, HB.out⟩
end Go.Proofs.YthdjnbhdgacmgaaGreat.Gr
