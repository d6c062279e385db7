/-
  The walk of the statement CrcSums: for every text and every cut it returns true, and writes nothing that was there.
-/
import Derived.Test.YtbkipgbhhjfjfaaCrcTells
namespace Go.Proofs.Ytbkipgbhhjfjfaa.Crc
open Go.RowKit
theorem ret_bool {a : Bool} (h : a = true) : Ending.returned (.bool a) = .returned (.bool true) := by rw [h]
theorem Below.drewN' {B : Nat} {a w : World} (h : Below B a w) (n : Nat) : Below B a (w.drewN n) := by
  induction n with
  | zero => exact h
  | succ n ih => exact ih.drew
theorem extract_parts (t : ByteArray) (k : Nat) : t.data.toList.take k ++ (t.extract k t.size).data.toList = t.data.toList := by
  simp
  rw [List.take_of_length_le (l := t.data.toList.drop k) (by simp), List.take_append_drop]
theorem add_parts (t : ByteArray) (k : Nat) (ht : t.size ≤ 300) (W : World) :
    Calls Try.prog 11 #[.int .u32 ((sum (t.data.toList.take k) : Nat) : Int), .string (t.extract k t.size)] W fun e w' => e = .returned (.int .u32 ((sum t.data.toList : Nat) : Int)) ∧ W = w' := by
  refine (add_any _ _ W (sum_lt _) (by unfold maxLen; simp; omega)).mono ?_
  rintro e w' ⟨rfl, rfl⟩
  exact ⟨by rw [sum_add, extract_parts t k], rfl⟩
theorem join_four (N : Nat) (h : N < 4294967296) : (UInt8.ofNat N).toNat + 256 * (UInt8.ofNat (N / 256)).toNat + 65536 * (UInt8.ofNat (N / 65536)).toNat + 16777216 * (UInt8.ofNat (N / 16777216)).toNat = N := by
  simp; omega
set_option maxHeartbeats 1000000 in
theorem sums_walk (s : ByteArray) (c : Nat) (w : World) (hs : s.size ≤ maxLen) (hc : c < 65536) :
    Calls Try.prog 3 #[.string s, .int .u16 (c : Int)] w fun e w' => e = .returned (.bool true) ∧ Below w.heap.size w w' := by
  have hs' := hs
  unfold maxLen at hs'
  go_enter Try.func3, Try.ntmps3
  go_wp2_with fail
  refine (speaks_any _).mono ?_
  rintro e w1 ⟨rfl, hb1⟩
  go_wp2_with fail
  all_goals
    first
      | (have hh : 300 < (s.size : Int) := by assumption
         have ht : (s.extract 0 300).size ≤ 300 := by simp; omega
         generalize s.extract 0 300 = t at *)
      | (have hh : (s.size : Int) ≤ 300 := by assumption
         have ht : s.size ≤ 300 := by omega
         generalize s = t at *)
    refine (ref_any _ _ (by unfold maxLen; omega)).mono ?_
    rintro e w' ⟨rfl, rfl⟩
    have hn := sum_lt t.data.toList
    go_wp2_with fail
    refine (bytes_any _ _ hn).mono ?_
    rintro e w2 ⟨rfl, hb2⟩
    go_wp2_with fail
    obtain ⟨k, hk, hkl⟩ : ∃ k : Nat, ((c : Int) % ((t.size : Int) + 1)) = (k : Int) ∧ k ≤ t.size := ⟨c % (t.size + 1), by rw [Int.natCast_emod]; rfl, by have := Nat.mod_lt c (show 0 < t.size + 1 by omega); omega⟩
    rw [hk]
    clear hk
    have hj := join_four _ hn
    have cAdd := add_parts t k (by omega)
    unfold four
    generalize UInt8.ofNat (sum t.data.toList) = b0 at *
    generalize UInt8.ofNat (sum t.data.toList / 256) = b1 at *
    generalize UInt8.ofNat (sum t.data.toList / 65536) = b2 at *
    generalize UInt8.ofNat (sum t.data.toList / 16777216) = b3 at *
    have HJ := Lib.hid hj
    have HA := Lib.hid cAdd
    clear hj cAdd
    go_quiet ((first | (go_at_call 10; exact Calls.quiet_of_same (still (sum_any _ _ (by unfold maxLen; simp; omega)))) | (go_at_call 11; exact Calls.quiet_of_same (still (HA.out _)))))
    go_wp2
    go_ret
    refine ⟨ret_bool ?_, Below.drewN' (hb1.trans (hb2.mono hb1.size)) nq⟩
    rw [beq_iff_eq]
    have e0 := nat_lt b0
    have e1 := nat_lt b1
    have e2 := nat_lt b2
    have e3 := nat_lt b3
    have hj := HJ.out
    show ((b0.toNat : Int) + 256 * ((b1.toNat : Int) % 4294967296) + 65536 * ((b2.toNat : Int) % 4294967296) + 16777216 * ((b3.toNat : Int) % 4294967296)) % 4294967296 = _
    omega
end Go.Proofs.Ytbkipgbhhjfjfaa.Crc
namespace Go.Proofs.Ytbkipgbhhjfjfaa.crcSums
open Go.RowKit
theorem sums_at (s : ByteArray) (c : Int) (hs : s.size ≤ maxLen) (hc : (Lit.int .u16 c).wf = true) (w : World) :
    Calls Try.prog 3 #[.string s, .int .u16 c] w fun e w' => e = .returned (.bool true) ∧ Below w.heap.size w w' := by
  have hx : 0 ≤ c ∧ c ≤ 65535 := by simpa [Lit.wf, IntKind.min, IntKind.max, IntKind.signed, IntKind.bits] using hc
  obtain ⟨n, rfl⟩ := Int.eq_ofNat_of_zero_le hx.1
  exact Crc.sums_walk s n w hs (by omega)
end Go.Proofs.Ytbkipgbhhjfjfaa.crcSums
