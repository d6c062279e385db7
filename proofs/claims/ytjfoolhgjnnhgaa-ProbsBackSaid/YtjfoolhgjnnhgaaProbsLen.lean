/-
  Contracts of math/bits.Len at powers of two, and of the number of a tree's bits.
-/
import Derived.Test.YtjfoolhgjnnhgaaRcLock
namespace Go.Proofs.Ytjfoolhgjnnhgaa.Rc
open Go.RowKit
set_option maxRecDepth 100000 in
set_option maxHeartbeats 4000000 in
theorem len_pow (n : Nat) (hn : n ≤ 16) (w : World) : Calls Try.prog 92 #[.int .u64 ((2 ^ n : Nat) : Int)] w fun x w' => x = .returned (.int .i64 ((n + 1 : Nat) : Int)) ∧ w = w' := by
  have key : n = 0 ∨ n = 1 ∨ n = 2 ∨ n = 3 ∨ n = 4 ∨ n = 5 ∨ n = 6 ∨ n = 7 ∨ n = 8 ∨ n = 9 ∨ n = 10 ∨ n = 11 ∨ n = 12 ∨ n = 13 ∨ n = 14 ∨ n = 15 ∨ n = 16 := by omega
  rcases key with h | h | h | h | h | h | h | h | h | h | h | h | h | h | h | h | h
  all_goals
    subst h
    go_enter Try.func92, Try.ntmps92
    go_wp2
    go_ret
    exact ⟨by kernel_rfl, rfl⟩
/-- A slice whose length is a power of two. -/
theorem bits_any (n : Nat) (hn : n ≤ 16) (g cap : Nat) (w : World) : Calls Try.prog 62 #[.slice (some ⟨g, 0, none⟩) (2 ^ n) cap] w fun x w' => x = .returned (.int .i64 (n : Int)) ∧ w = w' := by
  have hp : 2 ^ n ≤ 65536 := Nat.pow_le_pow_right (n := 2) (by omega) hn
  have HL := Lib.hid (len_pow n hn)
  generalize 2 ^ n = N at *
  go_enter Try.func62, Try.ntmps62
  go_wp2_with fail
  refine (HL.out _).mono ?_
  rintro x w1 ⟨rfl, rfl⟩
  have hI : ((n + 1 : Nat) : Int) = (n : Int) + 1 := by omega
  rw [hI]
  go_wp2
  go_ret
  exact ⟨ret_num (by omega), rfl⟩
end Go.Proofs.Ytjfoolhgjnnhgaa.Rc
