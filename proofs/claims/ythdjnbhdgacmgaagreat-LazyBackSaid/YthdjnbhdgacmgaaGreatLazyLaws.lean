/-
  Layer 14's statements: their first lines return true.
-/
import Derived.Test.YthdjnbhdgacmgaaGreatLazyDev
import Derived.Test.YthdjnbhdgacmgaaGreatGreedyLaws
set_option linter.unusedVariables false
namespace Go.Proofs.YthdjnbhdgacmgaaGreat.Gr
open Go.RowKit
open Mt
open Ch (foundL bt)
open Pk (Rp Pt IsPts repL)
def abcx : ByteArray := ⟨#[97, 98, 99, 120, 98, 99, 100, 101, 97, 98, 99, 100, 101]⟩
theorem told_abcx : told abcx (wait abcx 99 9) = [⟨1, 0, 0, 97⟩, ⟨1, 0, 0, 98⟩, ⟨1, 0, 0, 99⟩, ⟨1, 0, 0, 120⟩, ⟨1, 0, 0, 98⟩, ⟨1, 0, 0, 99⟩, ⟨1, 0, 0, 100⟩, ⟨1, 0, 0, 101⟩, ⟨1, 0, 0, 97⟩, ⟨2, 5, 4, 0⟩] := by kernel_rfl
set_option maxRecDepth 100000 in
set_option maxHeartbeats 2000000 in
theorem speaks14 (w : World) : Calls Tryz.prog 34 #[] w fun x w' => x = .returned (.bool true) ∧ Below w.heap.size w w' := by
  have HG := Lib.hid (lazy_any abcx 99 9 w (show (13 : Nat) ≤ 1000 by omega) (by omega) (by omega) (by omega))
  rw [told_abcx] at HG
  go_enter Tryz.func34, Tryz.ntmps34
  go_wp2_with fail
  refine (show Calls Tryz.prog 35 #[.string ⟨#[97, 98, 99, 120, 98, 99, 100, 101, 97, 98, 99, 100, 101]⟩, .int .i64 99, .int .i64 9] w _ from HG.out).mono ?_
  rintro x w1 ⟨Z, rfl, hb, hI⟩
  have HB := Lib.hid hb
  rcases hI with h | ⟨z, o, hz, hI⟩
  · simp at h
  · simp only [Option.some.injEq, Addr.mk.injEq, and_true] at hz
    obtain ⟨rfl, rfl⟩ := hz
    obtain ⟨a0, a1, a2, a3, _⟩ := hI 8 (by decide)
    obtain ⟨b0, b1, b2, b3, _⟩ := hI 9 (by decide)
    simp at a0 a1 a2 a3 b0 b1 b2 b3
    have hq := eq_pp 2 5 4 0
    clear hb hI HG
    go_wp2_with fail
    go_ret
    exact ⟨rfl, HB.out⟩
end Go.Proofs.YthdjnbhdgacmgaaGreat.Gr
