/-
  Layer 9 in plain numbers: the state behind a packet, a number's slot, a slot's base.
-/
import Derived.Test.YtakbocaemlgbaaaOwn
namespace Go.Proofs.Ytakbocaemlgbaaa.St
/-- The state behind a packet of a kind. -/
def nxt (s k : Int) : Int :=
  if k = 1 then (if s < 4 then 0 else if s < 10 then s - 3 else s - 6)
  else if k = 2 then (if s < 7 then 7 else 10)
  else if k = 3 then (if s < 7 then 8 else 11)
  else if k = 4 then (if s < 7 then 9 else 11) else s
theorem nxt_in {s k : Int} (h0 : 0 ≤ s) (h1 : s ≤ 11) : 0 ≤ nxt s k ∧ nxt s k ≤ 11 := by
  unfold nxt
  repeat' split
  all_goals omega
/-- The slot of a number: of its highest bits. -/
def slot (d : Nat) : Nat := if d < 4 then d else if d < 2 ^ d.log2 + 2 ^ (d.log2 - 1) then 2 * d.log2 else 2 * d.log2 + 1
/-- The base of a slot. -/
def base (k : Nat) : Nat := if k < 4 then k else (2 + k % 2) * 2 ^ (k / 2 - 1)
/-- How many bits more. -/
def more (k : Nat) : Nat := if k < 4 then 0 else k / 2 - 1
theorem pow_split {n : Nat} (h : 1 ≤ n) : 2 ^ n = 2 * 2 ^ (n - 1) := by
  obtain ⟨m, rfl⟩ : ∃ m, n = m + 1 := ⟨n - 1, by omega⟩
  rw [Nat.add_sub_cancel, Nat.pow_succ, Nat.mul_comm]
theorem log_spec {d : Nat} (h : 4 ≤ d) : 2 ^ d.log2 ≤ d ∧ d < 2 * 2 ^ d.log2 ∧ 2 ≤ d.log2 := by
  have h0 : d ≠ 0 := by omega
  refine ⟨Nat.log2_self_le h0, ?_, (Nat.le_log2 h0).2 (by omega)⟩
  have := Nat.lt_log2_self (n := d)
  rw [Nat.pow_succ] at this
  omega
theorem log_uniq {d n : Nat} (h1 : 2 ^ n ≤ d) (h2 : d < 2 * 2 ^ n) : d.log2 = n := by
  have h0 : d ≠ 0 := by have := Nat.two_pow_pos n; omega
  have a := (Nat.le_log2 h0).2 h1
  have b : d.log2 < n + 1 := (Nat.log2_lt h0).2 (by rw [Nat.pow_succ]; omega)
  omega
/-- The slot, told by the bit below the highest one. -/
theorem slot_bit {d : Nat} (h : 4 ≤ d) : slot d = 2 * d.log2 + d / 2 ^ (d.log2 - 1) % 2 := by
  obtain ⟨h1, h2, h3⟩ := log_spec h
  have hp := pow_split (n := d.log2) (by omega)
  have hq := Nat.two_pow_pos (d.log2 - 1)
  unfold slot
  rw [if_neg (by omega)]
  generalize 2 ^ (d.log2 - 1) = q at *
  by_cases hs : d < 2 ^ d.log2 + q
  · rw [if_pos hs]
    have : d / q = 2 := Nat.div_eq_of_lt_le (by omega) (by omega)
    rw [this]; omega
  · rw [if_neg hs]
    have : d / q = 3 := Nat.div_eq_of_lt_le (by omega) (by omega)
    rw [this]
theorem slot_lt {d : Nat} (h : d < 4294967296) : slot d < 64 := by
  by_cases h4 : d < 4
  · unfold slot; rw [if_pos h4]; omega
  · rw [slot_bit (by omega)]
    have : d.log2 < 32 := (Nat.log2_lt (by omega)).2 (by omega)
    omega
/-- A number is its slot's base and so many bits. -/
theorem base_slot (d : Nat) : base (slot d) ≤ d ∧ d - base (slot d) < 2 ^ more (slot d) := by
  by_cases h4 : d < 4
  · have e : slot d = d := by unfold slot; rw [if_pos h4]
    rw [e]; unfold base more; rw [if_pos h4, if_pos h4]; omega
  · obtain ⟨h1, h2, h3⟩ := log_spec (d := d) (by omega)
    have hp := pow_split (n := d.log2) (by omega)
    have hq := Nat.two_pow_pos (d.log2 - 1)
    have h5 : 4 ≤ slot d := by rw [slot_bit (by omega)]; omega
    unfold base more
    rw [if_neg (by omega), if_neg (by omega)]
    unfold slot
    rw [if_neg (by omega)]
    by_cases hs : d < 2 ^ d.log2 + 2 ^ (d.log2 - 1)
    · rw [if_pos hs, show 2 * d.log2 / 2 - 1 = d.log2 - 1 by omega, show 2 * d.log2 % 2 = 0 by omega]
      generalize 2 ^ (d.log2 - 1) = q at *
      omega
    · rw [if_neg hs, show (2 * d.log2 + 1) / 2 - 1 = d.log2 - 1 by omega, show (2 * d.log2 + 1) % 2 = 1 by omega]
      generalize 2 ^ (d.log2 - 1) = q at *
      omega
theorem base_lt {k : Nat} (h : k < 64) : base k < 4294967296 := by
  unfold base
  split
  · omega
  · have : 2 ^ (k / 2 - 1) ≤ 2 ^ 30 := Nat.pow_le_pow_right (by omega) (by omega)
    have h3 : (2 + k % 2) * 2 ^ (k / 2 - 1) ≤ 3 * 2 ^ 30 := Nat.mul_le_mul (by omega) this
    omega
/-- The bits' length of a number below 256, as the table has it. -/
def blen (d : Nat) : Nat := if d = 0 then 0 else d.log2 + 1
theorem blen_shift {d : Nat} (n : Nat) (h : 2 ^ n ≤ d) : blen d = n + blen (d / 2 ^ n) := by
  have hq := Nat.two_pow_pos n
  have h1 : 0 < d / 2 ^ n := Nat.div_pos h hq
  unfold blen
  rw [if_neg (by omega), if_neg (by omega)]
  have e : (d / 2 ^ n).log2 = d.log2 - n := by
    apply log_uniq
    · have := Nat.log2_self_le (n := d) (by omega)
      have hn : n ≤ d.log2 := (Nat.le_log2 (by omega)).2 h
      rw [Nat.le_div_iff_mul_le hq, ← Nat.pow_add, Nat.sub_add_cancel hn]
      exact this
    · have := Nat.lt_log2_self (n := d)
      have hn : n ≤ d.log2 := (Nat.le_log2 (by omega)).2 h
      rw [Nat.div_lt_iff_lt_mul hq, Nat.mul_comm 2, ← Nat.pow_succ, ← Nat.pow_add, show d.log2 - n + 1 + n = d.log2 + 1 by omega]
      exact this
  have hn : n ≤ d.log2 := (Nat.le_log2 (by omega)).2 h
  omega
end Go.Proofs.Ytakbocaemlgbaaa.St
