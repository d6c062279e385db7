/-
  Package packet: Repeat of an empty list.
-/
import Derived.Test.YthdjnbhdgacmgaaGreatPackDo
namespace Go.Proofs.YthdjnbhdgacmgaaGreat.Pk
open Go.RowKit
theorem repeat_nil (a : Option Addr) (cap : Nat) (W : World) :
    Calls Tryz.prog 29 #[.slice a 0 cap] W fun x w' => ∃ Z, x = .returned (.slice (some ⟨Z, 0, none⟩) 0 0) ∧ Below W.heap.size W w' ∧ W.heap.size ≤ Z := by
  have mk0 : ∀ w, (Instr.makeSlice 58 (.int .i64 0) (.int .i64 0)).run Tryz.prog w = .ok (.slice (some ⟨w.heap.size, 0, none⟩) 0 0) (w.alloc (.cells #[] 49)) := fun w => by kernel_rfl
  have HF1 := Lib.hid (show ∀ w1, Calls Tryz.prog 41 #[] w1 fun x w' => x = .returned (.agg #[.int .i64 1, .int .i64 1, .int .i64 1, .int .i64 1]) ∧ Below w1.heap.size w1 w' from fun w1 => first_any w1)
  go_enter Tryz.func29, Tryz.ntmps29
  go_wp2_with fail
  have HB1 := Lib.hid ((Below.refl _ W).alloc (Nat.le_refl _) (.cells #[] 49))
  generalize W.alloc (.cells #[] 49) = W1 at *
  clear mk0
  refine (HF1.out W1).mono ?_
  rintro x w2 ⟨rfl, hb2⟩
  have HB2 := Lib.hid (bel_new hb2 HB1.out)
  clear hb2 HB1
  go_wp2_with fail
  refine (HF1.out w2).mono ?_
  rintro x w3 ⟨rfl, hb3⟩
  have HB3 := Lib.hid (bel_alloc (.cells #[.int .i64 1, .int .i64 1, .int .i64 1, .int .i64 1] 78) (bel_alloc (.cells #[.int .i64 1, .int .i64 1, .int .i64 1, .int .i64 1] 78) (bel_new hb3 HB2.out)))
  clear hb3 HB2 HF1
  go_wp2_with fail
  generalize (w3.alloc (.cells #[.int .i64 1, .int .i64 1, .int .i64 1, .int .i64 1] 78)).alloc (.cells #[.int .i64 1, .int .i64 1, .int .i64 1, .int .i64 1] 78) = W4 at *
  go_loop [20] (fun i => i = .int .i64 0) (fun i => 1)
  case atStart => rfl
  case round =>
    subst hrel
    go_wp2
    go_ret
    exact ⟨_, rfl, HB3.out, Nat.le_refl _⟩
end Go.Proofs.YthdjnbhdgacmgaaGreat.Pk
