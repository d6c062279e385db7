/-
  Layer 9: contracts of the developers' state and of the document's answer.
-/
import Derived.Test.YtakbocaemlgbaaaStateMath
import Derived.Test.YtakbocaemlgbaaaChecked
import Derived.WalkKit
import Derived.Lib.Hide
import Derived.Lib.Small
import Derived.Lib.Walk
import Derived.Lib.BitFns
set_option linter.unusedSimpArgs false
set_option linter.unusedVariables false
namespace Go.Proofs.Ytakbocaemlgbaaa.St
open Go.RowKit
theorem ret_i {a b : Int} (h : a = b) : Ending.returned (.int .i64 a) = .returned (.int .i64 b) := by rw [h]
theorem ret_b {a b : Bool} (h : a = b) : Ending.returned (.bool a) = .returned (.bool b) := by rw [h]
theorem lit_any (s : Int) (w : World) : Calls Try.prog 20 #[.int .i64 s] w fun x w' => x = .returned (.bool (decide (s < 7))) ∧ w = w' := by
  go_enter Try.func20, Try.ntmps20
  go_wp2
  go_ret
  exact ⟨rfl, rfl⟩
theorem next_any (s k : Int) (h0 : 0 ≤ s) (h1 : s ≤ 11) (w : World) : Calls Try.prog 18 #[.int .i64 s, .int .i64 k] w fun x w' => x = .returned (.int .i64 (nxt s k)) ∧ w = w' := by
  have key : ∀ a b : Int, s - a = b → -9 ≤ b → b ≤ 11 → IntKind.i64.wrap (s - a) = s - a := fun a b h _ _ => IntWalk.i64_in _ (by omega)
  have e3 := IntWalk.i64_in (s - 3) (by omega)
  have e6 := IntWalk.i64_in (s - 6) (by omega)
  by_cases k1 : k = 1
  · subst k1
    unfold nxt
    by_cases a : s < 4 <;> by_cases b : s < 10 <;> first | omega | skip
    all_goals
      try have b9 : s ≤ 9 := by omega
      try have b9 : ¬ s ≤ 9 := by omega
      go_enter Try.func18, Try.ntmps18
      go_wp2
      go_ret
      exact ⟨ret_i (by simp [a, b]), rfl⟩
  · unfold nxt
    by_cases a : s < 7
    all_goals
      by_cases k2 : k = 2
      · subst k2
        go_enter Try.func18, Try.ntmps18
        go_wp2
        go_ret
        exact ⟨ret_i (by simp [a]), rfl⟩
      by_cases k3 : k = 3
      · subst k3
        go_enter Try.func18, Try.ntmps18
        go_wp2
        go_ret
        exact ⟨ret_i (by simp [a]), rfl⟩
      by_cases k4 : k = 4
      · subst k4
        go_enter Try.func18, Try.ntmps18
        go_wp2
        go_ret
        exact ⟨ret_i (by simp [a]), rfl⟩
      · go_enter Try.func18, Try.ntmps18
        go_wp2
        go_ret
        exact ⟨ret_i (by simp [k1, k2, k3, k4]), rfl⟩
theorem ref_any (s k : Int) (h0 : 0 ≤ s) (h1 : s ≤ 11) (w : World) : Calls Try.prog 19 #[.int .i64 s, .int .i64 k] w fun x w' => x = .returned (.int .i64 (nxt s k)) ∧ w = w' := by
  have e3 := IntWalk.i64_in (s - 3) (by omega)
  have e6 := IntWalk.i64_in (s - 6) (by omega)
  by_cases k1 : k = 1
  · subst k1
    unfold nxt
    by_cases a : s < 4 <;> by_cases b : s < 10 <;> first | omega | skip
    all_goals
      go_enter Try.func19, Try.ntmps19
      go_wp2
      go_ret
      exact ⟨ret_i (by simp [a, b]), rfl⟩
  · unfold nxt
    by_cases a : s < 7
    all_goals
      by_cases k2 : k = 2
      · subst k2
        go_enter Try.func19, Try.ntmps19
        go_wp2
        go_ret
        exact ⟨ret_i (by simp [a]), rfl⟩
      by_cases k3 : k = 3
      · subst k3
        go_enter Try.func19, Try.ntmps19
        go_wp2
        go_ret
        exact ⟨ret_i (by simp [a]), rfl⟩
      by_cases k4 : k = 4
      · subst k4
        go_enter Try.func19, Try.ntmps19
        go_wp2
        go_ret
        exact ⟨ret_i (by simp [a]), rfl⟩
      · go_enter Try.func19, Try.ntmps19
        go_wp2
        go_ret
        exact ⟨ret_i (by simp [k1, k2, k3, k4]), rfl⟩
theorem class_any (n : Int) (hn0 : -9223372036854775808 ≤ n) (hn1 : n ≤ 9223372036854775807) (w : World) : Calls Try.prog 25 #[.int .i64 n] w fun x w' => x = .returned (.int .i64 (min (max n 2) 5 - 2)) ∧ w = w' := by
  by_cases h1 : n < 2
  · go_enter Try.func25, Try.ntmps25
    go_wp2
    all_goals (go_ret; exact ⟨ret_i (by omega), rfl⟩)
  · by_cases h2 : 5 < n
    all_goals
      go_enter Try.func25, Try.ntmps25
      go_wp2
      all_goals (go_ret; exact ⟨ret_i (by omega), rfl⟩)
theorem blen_lib (d : Nat) (h : d < 18446744073709551616) : blen d = Lib.bitLen d := by
  have key : ∀ f x : Nat, x < 2 ^ f → Lib.bitLenAux f x = blen x := by
    intro f
    induction f with
    | zero => intro x hx; have : x = 0 := by simpa using hx
              subst this; rfl
    | succ f ih =>
      intro x hx
      rw [Lib.bitLenAux]
      split
      · subst_vars; rfl
      · rename_i h0
        rw [ih (x / 2) (by rw [Nat.pow_succ] at hx; omega)]
        by_cases h1 : x = 1
        · subst h1; decide
        · exact (blen_shift 1 (by omega)).symm
  exact (key 64 d h).symm
theorem and1 (v : Nat) (hv : v < 4294967296) : bits .and .u32 (v : Int) 1 = ((v % 2 : Nat) : Int) := by
  have h := bits_mask .u32 32 (by decide) (fun n h0 h1 => by rw [IntKind.wrap_u32]; omega) 1 (by decide) (v : Int) (by omega) (by omega)
  have e : ((2 : Int) ^ 1 - 1) = 1 := by decide
  rw [e] at h
  rw [h]; omega
set_option maxHeartbeats 4000000 in
set_option maxRecDepth 100000 in
theorem len32_int (x : Int) (h0 : 0 ≤ x) (h1 : x ≤ 4294967295) (w : World) : Calls Try.prog 50 #[.int .u32 x] w fun e w' => e = .returned (.int .i64 (Lib.bitLen x.toNat : Int)) ∧ w = w' := by
  by_cases a : x < 65536
  · by_cases b : x < 256
    · have d1 : x ≤ 255 := by omega
      go_enter Try.func50, Try.ntmps50
      go_wp2
      go_ret
      refine ⟨ret_i ?_, rfl⟩
      rw [Lib.len8_of x h0 d1]
      have l := Lib.bitLen_le8' x h0 (by omega)
      unfold wrap64
      omega
    · have d0 : 0 ≤ x / 256 := by omega
      have d1 : x / 256 ≤ 255 := by omega
      have d2 : x / 256 < 256 := by omega
      go_enter Try.func50, Try.ntmps50
      go_wp2
      go_ret
      refine ⟨ret_i ?_, rfl⟩
      rw [Lib.len8_of (x / 256) d0 d1]
      have l := Lib.bitLen_le8' (x / 256) d0 d1
      have s := Lib.bitLen_shift8 x.toNat (by omega) (by omega)
      have e : (x / 256).toNat = x.toNat / 256 := by omega
      rw [e] at l ⊢
      unfold wrap64
      omega
  · by_cases b : x / 65536 < 256
    · have d0 : 0 ≤ x / 65536 := by omega
      have d1 : x / 65536 ≤ 255 := by omega
      go_enter Try.func50, Try.ntmps50
      go_wp2
      go_ret
      refine ⟨ret_i ?_, rfl⟩
      rw [Lib.len8_of (x / 65536) d0 d1]
      have l := Lib.bitLen_le8' (x / 65536) d0 d1
      have s := Lib.bitLen_shift16 x.toNat (by omega) (by omega)
      have e : (x / 65536).toNat = x.toNat / 65536 := by omega
      rw [e] at l ⊢
      unfold wrap64
      omega
    · have d0 : 0 ≤ x / 65536 / 256 := by omega
      have d1 : x / 65536 / 256 ≤ 255 := by omega
      have d2 : x / 65536 / 256 < 256 := by omega
      go_enter Try.func50, Try.ntmps50
      go_wp2
      go_ret
      refine ⟨ret_i ?_, rfl⟩
      rw [Lib.len8_of (x / 65536 / 256) d0 d1]
      have l := Lib.bitLen_le8' (x / 65536 / 256) d0 d1
      have s := Lib.bitLen_shift24 x.toNat (by omega) (by omega)
      have e : (x / 65536 / 256).toNat = x.toNat / 16777216 := by omega
      rw [e] at l ⊢
      unfold wrap64
      omega
theorem len32_any (d : Nat) (h : d < 4294967296) (w : World) : Calls Try.prog 50 #[.int .u32 (d : Int)] w fun x w' => x = .returned (.int .i64 (blen d : Int)) ∧ w = w' := by
  have := len32_int (d : Int) (by omega) (by omega) w
  rw [Int.toNat_natCast, ← blen_lib d (by omega)] at this
  exact this
theorem slot_any (d : Nat) (h : d < 4294967296) (w : World) : Calls Try.prog 21 #[.int .u32 (d : Int)] w fun x w' => x = .returned (.int .i64 (slot d : Int)) ∧ w = w' := by
  have hl := Lib.hid (len32_any d h)
  by_cases h4 : d < 4
  · have e : slot d = d := by unfold slot; rw [if_pos h4]
    rw [e]
    have c1 : (d : Int) < 4 := by omega
    go_enter Try.func21, Try.ntmps21
    go_wp2
    go_ret
    exact ⟨ret_i (by omega), rfl⟩
  · have c1 : ¬ (d : Int) < 4 := by omega
    have hs := Lib.hid (slot_bit (d := d) (by omega))
    have hb : blen d = d.log2 + 1 := by unfold blen; rw [if_neg (by omega)]
    have hn : d.log2 < 32 := (Nat.log2_lt (by omega)).2 (by omega)
    have hn2 := (log_spec (d := d) (by omega)).2.2
    rw [hb] at hl
    generalize slot d = sl at *
    generalize d.log2 = n at *
    clear hb
    go_enter Try.func21, Try.ntmps21
    go_wp2_with fail
    refine (hl.out _).mono ?_
    rintro x w1 ⟨rfl, rfl⟩
    go_wp2
    go_ret
    have hdv : ((d : Int) / 2 ^ (n - 1)) = ((d / 2 ^ (n - 1) : Nat) : Int) := by simp
    have hle := Nat.div_le_self d (2 ^ (n - 1))
    have ha := and1 (d / 2 ^ (n - 1)) (by omega)
    rw [← hdv] at ha
    have hsl := hs.out
    have hw1 : wrap64 (((d / 2 ^ (n - 1) % 2 : Nat) : Int)) = ((d / 2 ^ (n - 1) % 2 : Nat) : Int) := by unfold wrap64; omega
    have hw2 : wrap64 (2 * (n : Int) + ((d / 2 ^ (n - 1) % 2 : Nat) : Int)) = (sl : Int) := by unfold wrap64; omega
    exact ⟨ret_i (by rw [ha, hw1, hw2]), rfl⟩
theorem base_any (k : Int) (hk0 : -9223372036854775808 ≤ k) (hk1 : k ≤ 9223372036854775807) (w : World) : Calls Try.prog 22 #[.int .i64 k] w fun x w' => x = .returned (.tuple #[.int .u32 (if 0 ≤ k ∧ k < 64 then (base k.toNat : Int) else 0), .int .i64 (if 0 ≤ k ∧ k < 64 then (more k.toNat : Int) else 0)]) ∧ w = w' := by
  by_cases h0 : k < 0
  · rw [if_neg (by omega), if_neg (by omega)]
    go_enter Try.func22, Try.ntmps22
    go_wp2
    go_ret2
    exact ⟨rfl, rfl⟩
  by_cases h1 : 64 ≤ k
  · rw [if_neg (by omega), if_neg (by omega)]
    go_enter Try.func22, Try.ntmps22
    go_wp2
    go_ret2
    exact ⟨rfl, rfl⟩
  obtain ⟨m, rfl⟩ := Int.eq_ofNat_of_zero_le (a := k) (by omega)
  rw [if_pos (by omega), if_pos (by omega), Int.toNat_natCast]
  by_cases h4 : m < 4
  · have e : base m = m := by unfold base; rw [if_pos h4]
    have e' : more m = 0 := by unfold more; rw [if_pos h4]
    rw [e, e']
    have c1 : (m : Int) < 4 := by omega
    go_enter Try.func22, Try.ntmps22
    go_wp2
    go_ret2
    exact ⟨rfl, rfl⟩
  · have c1 : ¬ (m : Int) < 4 := by omega
    go_enter Try.func22, Try.ntmps22
    go_wp2
    go_ret2
    have hp : 2 ^ (m / 2 - 1) ≤ 2 ^ 30 := Nat.pow_le_pow_right (by omega) (by omega)
    have hb3 : (2 + m % 2) * 2 ^ (m / 2 - 1) ≤ 3 * 2 ^ 30 := Nat.mul_le_mul (by omega) hp
    have e1 : (2 + (m : Int) % 2) * 2 ^ (m / 2 - 1) % 4294967296 = (base m : Int) := by
      have e2 : (2 + (m : Int) % 2) * 2 ^ (m / 2 - 1) = (((2 + m % 2) * 2 ^ (m / 2 - 1) : Nat) : Int) := by push_cast; rfl
      unfold base
      rw [if_neg h4, e2]
      omega
    have e3 : (m : Int) / 2 - 1 = (more m : Int) := by
      unfold more
      rw [if_neg h4]
      omega
    exact ⟨congrArg Ending.returned (congrArg Value.tuple (by simp only [e1, e3]; rfl)), rfl⟩
end Go.Proofs.Ytakbocaemlgbaaa.St
