/-
  Package packet: Repeat of an empty list.
-/
import Derived.Test.YteacmcckhjabmaaPackDo
namespace Go.Proofs.Yteacmcckhjabmaa.Pk
open Go.RowKit
theorem repeat_nil (a : Option Addr) (cap : Nat) (W : World) :
    Calls Try.prog 44 #[.slice a 0 cap] W fun x w' => ∃ Z, x = .returned (.slice (some ⟨Z, 0, none⟩) 0 0) ∧ Below W.heap.size W w' ∧ W.heap.size ≤ Z := by
  have mk0 : ∀ w, (Instr.makeSlice 26 (.int .i64 0) (.int .i64 0)).run Try.prog w = .ok (.slice (some ⟨w.heap.size, 0, none⟩) 0 0) (w.alloc (.cells #[] 32)) := fun w => by kernel_rfl
  have HF1 := Lib.hid (show ∀ w1, Calls Try.prog 21 #[] w1 fun x w' => x = .returned (.agg #[.int .i64 1, .int .i64 1, .int .i64 1, .int .i64 1]) ∧ Below w1.heap.size w1 w' from fun w1 => first_any w1)
  go_enter Try.func44, Try.ntmps44
  go_wp2_with fail
  have HB1 := Lib.hid ((Below.refl _ W).alloc (Nat.le_refl _) (.cells #[] 32))
  generalize W.alloc (.cells #[] 32) = W1 at *
  clear mk0
  refine (HF1.out W1).mono ?_
  rintro x w2 ⟨rfl, hb2⟩
  have HB2 := Lib.hid (bel_new hb2 HB1.out)
  clear hb2 HB1
  go_wp2_with fail
  refine (HF1.out w2).mono ?_
  rintro x w3 ⟨rfl, hb3⟩
  have HB3 := Lib.hid (bel_alloc (.cells #[.int .i64 1, .int .i64 1, .int .i64 1, .int .i64 1] 55) (bel_alloc (.cells #[.int .i64 1, .int .i64 1, .int .i64 1, .int .i64 1] 55) (bel_new hb3 HB2.out)))
  clear hb3 HB2 HF1
  go_wp2_with fail
  generalize (w3.alloc (.cells #[.int .i64 1, .int .i64 1, .int .i64 1, .int .i64 1] 55)).alloc (.cells #[.int .i64 1, .int .i64 1, .int .i64 1, .int .i64 1] 55) = W4 at *
  go_loop [20] (fun i => i = .int .i64 0) (fun i => 1)
  case atStart => rfl
  case round =>
    subst hrel
    go_wp2
    go_ret
    exact ⟨_, rfl, HB3.out, Nat.le_refl _⟩
end Go.Proofs.Yteacmcckhjabmaa.Pk
