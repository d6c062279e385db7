/-
  Layer 9: contracts of the document's slot and base.
-/
import Derived.Test.YtakbocaemlgbaaaStateDev
namespace Go.Proofs.Ytakbocaemlgbaaa.St
open Go.RowKit
theorem u64_in {n : Int} (h0 : 0 ≤ n) (h1 : n < 18446744073709551616) : IntKind.u64.wrap n = n := by rw [IntKind.wrap_u64]; omega
theorem refslot_any (d : Nat) (h : d < 4294967296) (w : World) : Calls Try.prog 23 #[.int .u64 (d : Int)] w fun x w' => x = .returned (.int .i64 (slot d : Int)) ∧ ∃ n, w' = w.drewN n := by
  by_cases h4 : d < 4
  · have e : slot d = d := by unfold slot; rw [if_pos h4]
    rw [e]
    have c1 : (d : Int) < 4 := by omega
    clear h
    go_enter Try.func23, Try.ntmps23
    go_wp2
    go_ret
    exact ⟨ret_i (by omega), 0, rfl⟩
  · have c1 : ¬ (d : Int) < 4 := by omega
    obtain ⟨l1, l2, l3⟩ := log_spec (d := d) (by omega)
    have l4 : d.log2 < 32 := (Nat.log2_lt (by omega)).2 (by omega)
    have HS : Hid (slot d = if d < 2 ^ d.log2 + 2 ^ (d.log2 - 1) then 2 * d.log2 else 2 * d.log2 + 1) := Lib.hid (by unfold slot; rw [if_neg h4])
    have HH := Lib.hid h
    have HL := Lib.hid (⟨l1, l2, l3⟩ : 2 ^ d.log2 ≤ d ∧ d < 2 * 2 ^ d.log2 ∧ 2 ≤ d.log2)
    generalize slot d = sl at *
    generalize d.log2 = n at *
    clear h l1 l2 h4
    go_enter Try.func23, Try.ntmps23
    go_wp2
    go_loopw [3, 4] (fun a b wr => ∃ k p m : Nat, k ≤ n ∧ p = 2 ^ k ∧ a = .int .i64 k ∧ b = .int .u64 p ∧ wr = w.drewN m) (fun a _ _ => n - (intOf a).toNat)
    case atStart => exact ⟨0, 1, 0, by omega, rfl, rfl, rfl, rfl⟩
    case round =>
      obtain ⟨k, p, m, hk, hp, rfl, rfl, rfl⟩ := hrel
      have HP := Lib.hid hp
      have hple : p ≤ d := by
        have := Nat.pow_le_pow_right (n := 2) (by omega) hk
        have := HL.out.1
        omega
      have hw1 : IntKind.u64.wrap (2 * (p : Int)) = 2 * (p : Int) := u64_in (by omega) (by have := HH.out; omega)
      have hw2 : IntKind.u64.wrap ((p : Int) * 2) = (p : Int) * 2 := u64_in (by omega) (by have := HH.out; omega)
      clear hp
      by_cases hlt : k < n
      · have hle : 2 * (p : Int) ≤ (d : Int) := by
          have h1 := Nat.pow_le_pow_right (n := 2) (by omega) (show k + 1 ≤ n by omega)
          rw [Nat.pow_succ, ← HP.out] at h1
          have := HL.out.1
          omega
        have HP2 : Hid (2 * p = 2 ^ (k + 1)) := Lib.hid (by rw [Nat.pow_succ, ← HP.out]; omega)
        clear HP
        go_wp2
        go_roundw
        case rel => exact ⟨k + 1, 2 * p, _, by omega, HP2.out, by go_num, by go_num, rfl⟩
        case measure => simp [intOf]; omega
      · obtain rfl : k = n := by omega
        have hle : ¬ 2 * (p : Int) ≤ (d : Int) := by have := HL.out.2.1; rw [← HP.out] at this; omega
        have hp2 : 2 ^ (k - 1) = p / 2 := by
          have := pow_split (n := k) (by have := HL.out.2.2; omega)
          rw [HP.out]; omega
        have hw4 : IntKind.u64.wrap ((p : Int) / 2) = (p : Int) / 2 := u64_in (by omega) (by have := HH.out; omega)
        have hw3 : IntKind.u64.wrap ((p : Int) + (p : Int) / 2) = (p : Int) + (p : Int) / 2 := u64_in (by omega) (by have := HH.out; omega)
        by_cases hs : (p : Int) + (p : Int) / 2 ≤ (d : Int)
        · have HE : Hid (sl = 2 * k + 1) := Lib.hid (by rw [HS.out, ← HP.out, hp2, if_neg (by omega)])
          clear hp2 HP HS HL HH
          go_wp2
          go_ret
          exact ⟨ret_i (by rw [HE.out]; omega), _, rfl⟩
        · have HE : Hid (sl = 2 * k) := Lib.hid (by rw [HS.out, ← HP.out, hp2, if_pos (by omega)])
          clear hp2 HP HS HL HH
          go_wp2
          go_ret
          exact ⟨ret_i (by rw [HE.out]; omega), _, rfl⟩
set_option maxRecDepth 100000 in
theorem refbase_any (k : Nat) (h : k < 64) (w : World) : Calls Try.prog 24 #[.int .i64 (k : Int)] w fun x w' => x = .returned (.tuple #[.int .u64 (base k : Int), .int .i64 (more k : Int)]) ∧ ∃ n, w' = w.drewN n := by
  by_cases h4 : k < 4
  · have e : base k = k := by unfold base; rw [if_pos h4]
    have e' : more k = 0 := by unfold more; rw [if_pos h4]
    rw [e, e']
    have c1 : (k : Int) < 4 := by omega
    go_enter Try.func24, Try.ntmps24
    go_wp2
    go_ret2
    exact ⟨rfl, 0, rfl⟩
  · have c1 : ¬ (k : Int) < 4 := by omega
    have HB : Hid (base k = (2 + k % 2) * 2 ^ (k / 2 - 1)) := Lib.hid (by unfold base; rw [if_neg h4])
    have HM : Hid ((k : Int) / 2 - 1 = (more k : Int)) := Lib.hid (by unfold more; rw [if_neg h4]; omega)
    generalize base k = bs at *
    generalize more k = mo at *
    obtain ⟨q, hq⟩ : ∃ q, q = k / 2 := ⟨_, rfl⟩
    have hqi : (k : Int) / 2 = (q : Int) := by omega
    have hq2 : 2 ≤ q := by omega
    have hq3 : q ≤ 31 := by omega
    rw [← hq] at HB
    clear hq
    go_enter Try.func24, Try.ntmps24
    go_wp2
    go_loopw [4, 5] (fun b a wr => ∃ i p m : Nat, i ≤ q ∧ p = 2 ^ i ∧ a = .int .i64 i ∧ b = .int .u64 p ∧ wr = w.drewN m) (fun _ a _ => q - (intOf a).toNat)
    case atStart => exact ⟨0, 1, 0, by omega, rfl, rfl, rfl, rfl⟩
    case round =>
      obtain ⟨i, p, m, hi, hp, rfl, rfl, rfl⟩ := hrel
      have hple : p ≤ 2147483648 := by
        have := Nat.pow_le_pow_right (n := 2) (by omega) (show i ≤ 31 by omega)
        rw [hp]; omega
      have HP := Lib.hid hp
      have hw2 : IntKind.u64.wrap ((p : Int) * 2) = (p : Int) * 2 := u64_in (by omega) (by omega)
      have hw4 : IntKind.u64.wrap ((p : Int) / 2) = (p : Int) / 2 := u64_in (by omega) (by omega)
      have hw3 : IntKind.u64.wrap ((p : Int) + (p : Int) / 2) = (p : Int) + (p : Int) / 2 := u64_in (by omega) (by omega)
      clear hp hple
      by_cases hlt : i < q
      · have HP2 : Hid (2 * p = 2 ^ (i + 1)) := Lib.hid (by rw [Nat.pow_succ, ← HP.out]; omega)
        have hlt' : (i : Int) < (q : Int) := by omega
        clear HP
        go_wp2
        go_roundw
        case rel => exact ⟨i + 1, 2 * p, _, by omega, HP2.out, by go_num, by go_num, rfl⟩
        case measure => simp [intOf]; omega
      · obtain rfl : i = q := by omega
        have hlt' : ¬ (i : Int) < (i : Int) := by omega
        have hp2 : 2 ^ (i - 1) * 2 = p := by
          have := pow_split (n := i) (by omega)
          rw [HP.out]; omega
        by_cases hs : (k : Int) % 2 = 1
        · have hs1 : (((k : Int) % 2) == 1) = true := by simpa using hs
          have HE : Hid ((p : Int) + (p : Int) / 2 = (bs : Int)) := Lib.hid (by rw [HB.out, show k % 2 = 1 by omega]; omega)
          clear hp2 HP HB
          go_wp2
          go_ret2
          exact ⟨by rw [← HE.out, ← HM.out, hqi]; rfl, _, rfl⟩
        · have hs1 : (((k : Int) % 2) == 1) = false := by simpa using hs
          have HE : Hid ((p : Int) = (bs : Int)) := Lib.hid (by rw [HB.out, show k % 2 = 0 by omega]; omega)
          clear hp2 HP HB
          go_wp2
          go_ret2
          exact ⟨by rw [← HE.out, ← HM.out, hqi]; rfl, _, rfl⟩
end Go.Proofs.Ytakbocaemlgbaaa.St
