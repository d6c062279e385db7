/-
  Package context: the contracts of the methods of nil.
-/
import Derived.Test.YteacmcckhjabmaaArenaTab
set_option linter.unusedVariables false
set_option linter.unusedSimpArgs false
namespace Go.Proofs.Yteacmcckhjabmaa.Cx
open Go.RowKit
open Rc Ar
set_option maxRecDepth 100000 in
theorem longest_nil (w : World) : Calls Try.prog 66 #[.pointer none] w fun x w' => x = .returned (.int .i64 (-1)) ∧ w = w' := by
  go_enter Try.func66, Try.ntmps66
  go_wp2_with fail
  go_ret
  exact ⟨rfl, rfl⟩
set_option maxRecDepth 100000 in
theorem table_nil (k : Int) (w : World) : Calls Try.prog 74 #[.pointer none, .int .i64 k] w fun x w' => x = .returned (.pointer none) ∧ w = w' := by
  have HL := Lib.hid (longest_nil w)
  by_cases h1 : k < 0
  · have g1 : decide (k < 0) = true := decide_eq_true h1
    go_enter Try.func74, Try.ntmps74
    go_wp2_with fail
    go_ret
    exact ⟨rfl, rfl⟩
  · have g1 : decide (k < 0) = false := decide_eq_false h1
    have g2 : -1 < k := by omega
    have g3 : decide (-1 < k) = true := decide_eq_true g2
    go_enter Try.func74, Try.ntmps74
    go_wp2_with fail
    refine HL.out.mono ?_
    rintro x w1 ⟨rfl, rfl⟩
    go_wp2_with fail
    go_ret
    exact ⟨rfl, rfl⟩
set_option maxRecDepth 100000 in
theorem learn_nil (s : Nat) (k : Int) (w : World) : Calls Try.prog 33 #[.pointer none, .int .u8 (s : Int), .int .i64 k] w fun x w' => x = .returned (.tuple #[]) ∧ w = w' := by
  go_enter Try.func33, Try.ntmps33
  go_wp2_with fail
  first | go_end0 | (simp only [Exit.inBlock, Exit.then]; refine bodyPost_ret (results_none rfl _ _ _) rfl ?_) | refine bodyPost_ret (results_none rfl _ _ _) rfl ?_
  exact ⟨rfl, rfl⟩
end Go.Proofs.Yteacmcckhjabmaa.Cx
