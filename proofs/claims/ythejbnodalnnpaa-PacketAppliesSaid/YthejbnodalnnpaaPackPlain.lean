/-
  Package packet: the contracts of Find, isLen, isPlain; what a packet is.
-/
import Derived.Test.YthejbnodalnnpaaPackReps
import Derived.LoopN
namespace Go.Proofs.Ythejbnodalnnpaa.Pk
open Go.RowKit
def Rp.find (r : Rp) (d : Int) : Int × Bool := if r.a = d then (0, true) else if r.b = d then (1, true) else if r.c = d then (2, true) else if r.d = d then (3, true) else (0, false)
set_option maxRecDepth 100000 in
theorem find_0 (r0 r1 r2 r3 d : Int) (h0 : (r0 == d) = true) (w : World) : Calls Try.prog 41 #[.agg #[.int .i64 r0, .int .i64 r1, .int .i64 r2, .int .i64 r3], .int .i64 d] w fun x w' => x = .returned (.tuple #[.int .i64 0, .bool true]) ∧ Below w.heap.size w w' := by
  have i0 : ∀ w, (Instr.index 78 (.agg #[.int .i64 r0, .int .i64 r1, .int .i64 r2, .int .i64 r3]) (.int .i64 0)).run Try.prog w = .ok (.int .i64 r0) w := fun _ => by kernel_rfl
  go_enter Try.func41, Try.ntmps41
  go_wp2_with fail
  refine wp_loop_rounds 1 ?_
  rw [rounds_succ]
  go_wp2_with fail
  go_ret2
  exact ⟨rfl, (Below.refl _ _).alloc (Nat.le_refl _) _⟩
set_option maxRecDepth 100000 in
theorem find_1 (r0 r1 r2 r3 d : Int) (h0 : (r0 == d) = false) (h1 : (r1 == d) = true) (w : World) : Calls Try.prog 41 #[.agg #[.int .i64 r0, .int .i64 r1, .int .i64 r2, .int .i64 r3], .int .i64 d] w fun x w' => x = .returned (.tuple #[.int .i64 1, .bool true]) ∧ Below w.heap.size w w' := by
  have i0 : ∀ w, (Instr.index 78 (.agg #[.int .i64 r0, .int .i64 r1, .int .i64 r2, .int .i64 r3]) (.int .i64 0)).run Try.prog w = .ok (.int .i64 r0) w := fun _ => by kernel_rfl
  have i1 : ∀ w, (Instr.index 78 (.agg #[.int .i64 r0, .int .i64 r1, .int .i64 r2, .int .i64 r3]) (.int .i64 1)).run Try.prog w = .ok (.int .i64 r1) w := fun _ => by kernel_rfl
  go_enter Try.func41, Try.ntmps41
  go_wp2_with fail
  refine wp_loop_rounds 2 ?_
  rw [rounds_succ]
  go_wp2_with fail
  rw [rounds_succ]
  go_wp2_with fail
  go_ret2
  exact ⟨rfl, (Below.refl _ _).alloc (Nat.le_refl _) _⟩
set_option maxRecDepth 100000 in
theorem find_2 (r0 r1 r2 r3 d : Int) (h0 : (r0 == d) = false) (h1 : (r1 == d) = false) (h2 : (r2 == d) = true) (w : World) : Calls Try.prog 41 #[.agg #[.int .i64 r0, .int .i64 r1, .int .i64 r2, .int .i64 r3], .int .i64 d] w fun x w' => x = .returned (.tuple #[.int .i64 2, .bool true]) ∧ Below w.heap.size w w' := by
  have i0 : ∀ w, (Instr.index 78 (.agg #[.int .i64 r0, .int .i64 r1, .int .i64 r2, .int .i64 r3]) (.int .i64 0)).run Try.prog w = .ok (.int .i64 r0) w := fun _ => by kernel_rfl
  have i1 : ∀ w, (Instr.index 78 (.agg #[.int .i64 r0, .int .i64 r1, .int .i64 r2, .int .i64 r3]) (.int .i64 1)).run Try.prog w = .ok (.int .i64 r1) w := fun _ => by kernel_rfl
  have i2 : ∀ w, (Instr.index 78 (.agg #[.int .i64 r0, .int .i64 r1, .int .i64 r2, .int .i64 r3]) (.int .i64 2)).run Try.prog w = .ok (.int .i64 r2) w := fun _ => by kernel_rfl
  go_enter Try.func41, Try.ntmps41
  go_wp2_with fail
  refine wp_loop_rounds 3 ?_
  rw [rounds_succ]
  go_wp2_with fail
  rw [rounds_succ]
  go_wp2_with fail
  rw [rounds_succ]
  go_wp2_with fail
  go_ret2
  exact ⟨rfl, (Below.refl _ _).alloc (Nat.le_refl _) _⟩
set_option maxRecDepth 100000 in
theorem find_3 (r0 r1 r2 r3 d : Int) (h0 : (r0 == d) = false) (h1 : (r1 == d) = false) (h2 : (r2 == d) = false) (h3 : (r3 == d) = true) (w : World) : Calls Try.prog 41 #[.agg #[.int .i64 r0, .int .i64 r1, .int .i64 r2, .int .i64 r3], .int .i64 d] w fun x w' => x = .returned (.tuple #[.int .i64 3, .bool true]) ∧ Below w.heap.size w w' := by
  have i0 : ∀ w, (Instr.index 78 (.agg #[.int .i64 r0, .int .i64 r1, .int .i64 r2, .int .i64 r3]) (.int .i64 0)).run Try.prog w = .ok (.int .i64 r0) w := fun _ => by kernel_rfl
  have i1 : ∀ w, (Instr.index 78 (.agg #[.int .i64 r0, .int .i64 r1, .int .i64 r2, .int .i64 r3]) (.int .i64 1)).run Try.prog w = .ok (.int .i64 r1) w := fun _ => by kernel_rfl
  have i2 : ∀ w, (Instr.index 78 (.agg #[.int .i64 r0, .int .i64 r1, .int .i64 r2, .int .i64 r3]) (.int .i64 2)).run Try.prog w = .ok (.int .i64 r2) w := fun _ => by kernel_rfl
  have i3 : ∀ w, (Instr.index 78 (.agg #[.int .i64 r0, .int .i64 r1, .int .i64 r2, .int .i64 r3]) (.int .i64 3)).run Try.prog w = .ok (.int .i64 r3) w := fun _ => by kernel_rfl
  go_enter Try.func41, Try.ntmps41
  go_wp2_with fail
  refine wp_loop_rounds 4 ?_
  rw [rounds_succ]
  go_wp2_with fail
  rw [rounds_succ]
  go_wp2_with fail
  rw [rounds_succ]
  go_wp2_with fail
  rw [rounds_succ]
  go_wp2_with fail
  go_ret2
  exact ⟨rfl, (Below.refl _ _).alloc (Nat.le_refl _) _⟩
set_option maxRecDepth 100000 in
theorem find_4 (r0 r1 r2 r3 d : Int) (h0 : (r0 == d) = false) (h1 : (r1 == d) = false) (h2 : (r2 == d) = false) (h3 : (r3 == d) = false) (w : World) : Calls Try.prog 41 #[.agg #[.int .i64 r0, .int .i64 r1, .int .i64 r2, .int .i64 r3], .int .i64 d] w fun x w' => x = .returned (.tuple #[.int .i64 0, .bool false]) ∧ Below w.heap.size w w' := by
  have i0 : ∀ w, (Instr.index 78 (.agg #[.int .i64 r0, .int .i64 r1, .int .i64 r2, .int .i64 r3]) (.int .i64 0)).run Try.prog w = .ok (.int .i64 r0) w := fun _ => by kernel_rfl
  have i1 : ∀ w, (Instr.index 78 (.agg #[.int .i64 r0, .int .i64 r1, .int .i64 r2, .int .i64 r3]) (.int .i64 1)).run Try.prog w = .ok (.int .i64 r1) w := fun _ => by kernel_rfl
  have i2 : ∀ w, (Instr.index 78 (.agg #[.int .i64 r0, .int .i64 r1, .int .i64 r2, .int .i64 r3]) (.int .i64 2)).run Try.prog w = .ok (.int .i64 r2) w := fun _ => by kernel_rfl
  have i3 : ∀ w, (Instr.index 78 (.agg #[.int .i64 r0, .int .i64 r1, .int .i64 r2, .int .i64 r3]) (.int .i64 3)).run Try.prog w = .ok (.int .i64 r3) w := fun _ => by kernel_rfl
  go_enter Try.func41, Try.ntmps41
  go_wp2_with fail
  refine wp_loop_rounds 5 ?_
  rw [rounds_succ]
  go_wp2_with fail
  rw [rounds_succ]
  go_wp2_with fail
  rw [rounds_succ]
  go_wp2_with fail
  rw [rounds_succ]
  go_wp2_with fail
  rw [rounds_succ]
  go_wp2_with fail
  go_ret2
  exact ⟨rfl, (Below.refl _ _).alloc (Nat.le_refl _) _⟩
theorem find_any (r : Rp) (d : Int) (w : World) : Calls Try.prog 41 #[r.val, .int .i64 d] w fun x w' => x = .returned (.tuple #[.int .i64 (r.find d).1, .bool (r.find d).2]) ∧ Below w.heap.size w w' := by
  obtain ⟨r0, r1, r2, r3⟩ := r
  unfold Rp.find
  simp only
  by_cases h0 : r0 = d
  · rw [if_pos h0]; exact find_0 r0 r1 r2 r3 d (by simpa using h0) w
  rw [if_neg h0]
  by_cases h1 : r1 = d
  · rw [if_pos h1]; exact find_1 r0 r1 r2 r3 d (by simpa using h0) (by simpa using h1) w
  rw [if_neg h1]
  by_cases h2 : r2 = d
  · rw [if_pos h2]; exact find_2 r0 r1 r2 r3 d (by simpa using h0) (by simpa using h1) (by simpa using h2) w
  rw [if_neg h2]
  by_cases h3 : r3 = d
  · rw [if_pos h3]; exact find_3 r0 r1 r2 r3 d (by simpa using h0) (by simpa using h1) (by simpa using h2) (by simpa using h3) w
  rw [if_neg h3]
  exact find_4 r0 r1 r2 r3 d (by simpa using h0) (by simpa using h1) (by simpa using h2) (by simpa using h3) w
def lenB (n : Int) : Bool := decide (2 ≤ n) && decide (n ≤ 273)
theorem len_any (n : Int) (w : World) : Calls Try.prog 93 #[.int .i64 n] w fun x w' => x = .returned (.bool (lenB n)) ∧ w = w' := by
  unfold lenB
  by_cases h : 2 ≤ n
  · go_enter Try.func93, Try.ntmps93
    go_wp2
    go_ret
    exact ⟨ret_bool (by simp [h]), rfl⟩
  · have hd : decide (2 ≤ n) = false := by simpa using h
    rw [hd]
    go_enter Try.func93, Try.ntmps93
    go_wp2
    go_ret
    exact ⟨ret_bool (by simp), rfl⟩
/-- A packet. -/
structure Pt where
  k : Int
  d : Int
  n : Int
  b : Nat
def Pt.val (p : Pt) : Value := .agg #[.int .i64 p.k, .int .i64 p.d, .int .i64 p.n, .int .u8 (p.b : Int)]
def Pt.plain (p : Pt) : Bool := if p.k = 1 then decide (p.d = 0 ∧ p.n = 0) else if p.k = 2 ∨ p.k = 3 then decide (p.b = 0) else if p.k = 4 then decide (p.d = 0 ∧ p.n = 0 ∧ p.b = 0) else false
theorem plain_any (p : Pt) (w : World) : Calls Try.prog 92 #[p.val] w fun x w' => x = .returned (.bool p.plain) ∧ Below w.heap.size w w' := by
  obtain ⟨k, d, n, b⟩ := p
  show Calls _ _ #[.agg #[.int .i64 k, .int .i64 d, .int .i64 n, .int .u8 (b : Int)]] _ _
  unfold Pt.plain
  simp only
  have HB := Lib.hid ((Below.refl w.heap.size w).alloc (Nat.le_refl _) (.cells #[.int .i64 k, .int .i64 d, .int .i64 n, .int .u8 (b : Int)] 74))
  by_cases h1 : k = 1
  · subst h1
    go_enter Try.func92, Try.ntmps92
    go_wp2
    all_goals
      go_ret
      exact ⟨ret_bool (by simp_all), (Below.refl _ _).alloc (Nat.le_refl _) _⟩
  by_cases h2 : k = 2
  · subst h2
    go_enter Try.func92, Try.ntmps92
    go_wp2
    all_goals
      go_ret
      exact ⟨ret_bool (by simp_all), (Below.refl _ _).alloc (Nat.le_refl _) _⟩
  by_cases h3 : k = 3
  · subst h3
    go_enter Try.func92, Try.ntmps92
    go_wp2
    all_goals
      go_ret
      exact ⟨ret_bool (by simp_all), (Below.refl _ _).alloc (Nat.le_refl _) _⟩
  by_cases h4 : k = 4
  · subst h4
    go_enter Try.func92, Try.ntmps92
    go_wp2
    all_goals
      go_ret
      exact ⟨ret_bool (by simp_all), (Below.refl _ _).alloc (Nat.le_refl _) _⟩
  · rw [if_neg h1, if_neg (by omega), if_neg h4]
    have e1 : (k == 1) = false := by simpa using h1
    have e2 : (k == 2) = false := by simpa using h2
    have e3 : (k == 3) = false := by simpa using h3
    have e4 : (k == 4) = false := by simpa using h4
    go_enter Try.func92, Try.ntmps92
    go_wp2
    go_ret
    exact ⟨rfl, HB.out⟩
end Go.Proofs.Ythejbnodalnnpaa.Pk
