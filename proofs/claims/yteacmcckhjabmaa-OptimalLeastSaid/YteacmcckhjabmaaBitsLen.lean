/-
  The library's bits.Len of numbers that are not negative.
-/
import Derived.Test.YteacmcckhjabmaaBase
import Derived.Lib.BitFns
import Derived.BigQuiet
import Derived.Deep.QuietTactic
import Derived.Deep.RegionHeld3
set_option linter.unusedVariables false
namespace Go.Proofs.Yteacmcckhjabmaa.Pc
open Go.RowKit
theorem ret_i {a b : Int} (h : a = b) : Ending.returned (.int .i64 a) = .returned (.int .i64 b) := by rw [h]
theorem five {w : World} {X : Nat} {a b c d e : Value} {t : TypeId} (h : w.heap[X]? = some (.cells #[a, b, c, d, e] t (0, 0))) :
    w.cell? ⟨X, 0, none⟩ = some a ∧ w.cell? ⟨X, 1, none⟩ = some b ∧ w.cell? ⟨X, 2, none⟩ = some c ∧ w.cell? ⟨X, 3, none⟩ = some d ∧ w.cell? ⟨X, 4, none⟩ = some e := by
  refine ⟨?_, ?_, ?_, ?_, ?_⟩ <;> simp [World.cell?, h]
theorem still {f : Nat} {args : Array Value} {w : World} {v : Value} (h : Calls Try.prog f args w fun x w' => x = .returned v ∧ w = w') : Calls Try.prog f args w fun x w' => x = .returned v ∧ w' = w := h.mono fun _ _ ⟨a, b⟩ => ⟨a, b.symm⟩
theorem fin {a q : Nat} (l : q ≤ 8) {k : Nat} (s : a = k + q) (hk : k ≤ 56) : wrap64 ((k : Int) + wrap64 (q : Int)) = (a : Int) := by
  unfold wrap64
  omega
theorem fin0 {q : Nat} (l : q ≤ 8) : wrap64 (wrap64 (q : Int)) = (q : Int) := by
  unfold wrap64
  omega
set_option maxHeartbeats 4000000 in
set_option maxRecDepth 100000 in
theorem len64_int (x : Int) (h0 : 0 ≤ x) (h1 : x ≤ 9223372036854775807) (w : World) : Calls Try.prog 91 #[.int .u64 x] w fun e w' => e = .returned (.int .i64 (Lib.bitLen x.toNat : Int)) ∧ w = w' := by
  by_cases a32 : x < 4294967296
  · by_cases a16 : x < 65536
    · by_cases a8 : x < 256
      · have d1 : x ≤ 255 := by omega
        go_enter Try.func91, Try.ntmps91
        go_wp2
        go_ret
        refine ⟨ret_i ?_, rfl⟩
        rw [Lib.len8_of x h0 d1]
        have l := Lib.bitLen_le8' x h0 d1
        exact fin0 l
      · have d0 : 0 ≤ x / 256 := by omega
        have d1 : x / 256 ≤ 255 := by omega
        go_enter Try.func91, Try.ntmps91
        go_wp2
        go_ret
        refine ⟨ret_i ?_, rfl⟩
        rw [Lib.len8_of (x / 256) d0 d1]
        have l := Lib.bitLen_le8' (x / 256) d0 d1
        have s := Lib.bitLen_shift8 x.toNat (by omega) (by omega)
        have e : (x / 256).toNat = x.toNat / 256 := by omega
        rw [e] at l ⊢
        exact fin l s (by decide)
    · by_cases a8 : x / 65536 < 256
      · have d0 : 0 ≤ x / 65536 := by omega
        have d1 : x / 65536 ≤ 255 := by omega
        go_enter Try.func91, Try.ntmps91
        go_wp2
        go_ret
        refine ⟨ret_i ?_, rfl⟩
        rw [Lib.len8_of (x / 65536) d0 d1]
        have l := Lib.bitLen_le8' (x / 65536) d0 d1
        have s := Lib.bitLen_shift16 x.toNat (by omega) (by omega)
        have e : (x / 65536).toNat = x.toNat / 65536 := by omega
        rw [e] at l ⊢
        exact fin l s (by decide)
      · have d0 : 0 ≤ x / 65536 / 256 := by omega
        have d1 : x / 65536 / 256 ≤ 255 := by omega
        go_enter Try.func91, Try.ntmps91
        go_wp2
        go_ret
        refine ⟨ret_i ?_, rfl⟩
        rw [Lib.len8_of (x / 65536 / 256) d0 d1]
        have l := Lib.bitLen_le8' (x / 65536 / 256) d0 d1
        have s := Lib.bitLen_shift24 x.toNat (by omega) (by omega)
        have e : (x / 65536 / 256).toNat = x.toNat / 16777216 := by omega
        rw [e] at l ⊢
        exact fin l s (by decide)
  · by_cases a16 : x / 4294967296 < 65536
    · by_cases a8 : x / 4294967296 < 256
      · have d0 : 0 ≤ x / 4294967296 := by omega
        have d1 : x / 4294967296 ≤ 255 := by omega
        go_enter Try.func91, Try.ntmps91
        go_wp2
        go_ret
        refine ⟨ret_i ?_, rfl⟩
        rw [Lib.len8_of (x / 4294967296) d0 d1]
        have l := Lib.bitLen_le8' (x / 4294967296) d0 d1
        have s := Lib.bitLen_shift32 x.toNat (by omega) (by omega)
        have e : (x / 4294967296).toNat = x.toNat / 4294967296 := by omega
        rw [e] at l ⊢
        exact fin l s (by decide)
      · have d0 : 0 ≤ x / 4294967296 / 256 := by omega
        have d1 : x / 4294967296 / 256 ≤ 255 := by omega
        go_enter Try.func91, Try.ntmps91
        go_wp2
        go_ret
        refine ⟨ret_i ?_, rfl⟩
        rw [Lib.len8_of (x / 4294967296 / 256) d0 d1]
        have l := Lib.bitLen_le8' (x / 4294967296 / 256) d0 d1
        have s := Lib.bitLen_shift40 x.toNat (by omega) (by omega)
        have e : (x / 4294967296 / 256).toNat = x.toNat / 1099511627776 := by omega
        rw [e] at l ⊢
        exact fin l s (by decide)
    · by_cases a8 : x / 4294967296 / 65536 < 256
      · have d0 : 0 ≤ x / 4294967296 / 65536 := by omega
        have d1 : x / 4294967296 / 65536 ≤ 255 := by omega
        go_enter Try.func91, Try.ntmps91
        go_wp2
        go_ret
        refine ⟨ret_i ?_, rfl⟩
        rw [Lib.len8_of (x / 4294967296 / 65536) d0 d1]
        have l := Lib.bitLen_le8' (x / 4294967296 / 65536) d0 d1
        have s := Lib.bitLen_shift48 x.toNat (by omega) (by omega)
        have e : (x / 4294967296 / 65536).toNat = x.toNat / 281474976710656 := by omega
        rw [e] at l ⊢
        exact fin l s (by decide)
      · have d0 : 0 ≤ x / 4294967296 / 65536 / 256 := by omega
        have d1 : x / 4294967296 / 65536 / 256 ≤ 255 := by omega
        go_enter Try.func91, Try.ntmps91
        go_wp2
        go_ret
        refine ⟨ret_i ?_, rfl⟩
        rw [Lib.len8_of (x / 4294967296 / 65536 / 256) d0 d1]
        have l := Lib.bitLen_le8' (x / 4294967296 / 65536 / 256) d0 d1
        have s := Lib.bitLen_shift56 x.toNat (by omega) (by omega)
        have e : (x / 4294967296 / 65536 / 256).toNat = x.toNat / 72057594037927936 := by omega
        rw [e] at l ⊢
        exact fin l s (by decide)
theorem len_int (x : Int) (h0 : 0 ≤ x) (h1 : x ≤ 9223372036854775807) (w : World) : Calls Try.prog 59 #[.int .u64 x] w fun e w' => e = .returned (.int .i64 (Lib.bitLen x.toNat : Int)) ∧ w = w' := by
  have HL := Lib.hid (len64_int x h0 h1)
  go_enter Try.func59, Try.ntmps59
  go_wp2_with fail
  refine (HL.out _).mono ?_
  rintro e w1 ⟨rfl, rfl⟩
  go_wp2_with fail
  go_ret
  exact ⟨rfl, rfl⟩
end Go.Proofs.Yteacmcckhjabmaa.Pc
