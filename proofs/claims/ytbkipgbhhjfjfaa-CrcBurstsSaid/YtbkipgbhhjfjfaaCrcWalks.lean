/-
  Contracts of package crc's functions: step, Add, Sum, Bytes, and of the reference's Sum: each returns what the plain mathematics says, and leaves the world as it was.
-/
import Derived.Test.YtbkipgbhhjfjfaaRows
import Derived.Test.YtbkipgbhhjfjfaaCrcMath
import Derived.WalkKit
import Derived.WalkSpells
import Derived.WalkLawsBesides
import Derived.ProofKit
import Derived.Outline
import Derived.Laws.BitsAllLaws
import Derived.Lib.Hide
namespace Go.Proofs.Ytbkipgbhhjfjfaa.Crc
open Go.RowKit

theorem ret_int {k : IntKind} {a b : Int} (h : a = b) : Ending.returned (.int k a) = .returned (.int k b) := by rw [h]
theorem low1 {y : Nat} (hy : y < 4294967296) (h : y % 2 = 1) : (bits .and .u32 (y : Int) 1 == 1) = true := by
  have e := u32_and_nat y 1 hy (by omega)
  rw [nat_mask1, h] at e
  rw [show (1 : Int) = ((1 : Nat) : Int) from rfl, e]; rfl
theorem low0 {y : Nat} (hy : y < 4294967296) (h : y % 2 = 0) : (bits .and .u32 (y : Int) 1 == 1) = false := by
  have e := u32_and_nat y 1 hy (by omega)
  rw [nat_mask1, h] at e
  rw [show (1 : Int) = ((1 : Nat) : Int) from rfl, e]; rfl
theorem xorc (y c : Nat) (hy : y < 4294967296) (hc : c < 4294967296) : bits .xor .u32 (y : Int) (c : Int) = ((y ^^^ c : Nat) : Int) := u32_xor_nat y c hy hc

set_option maxHeartbeats 400000 in
theorem step_any (z : Nat) (w : World) (hz : z < 4294967296) :
    Calls Try.prog 19 #[.int .u32 (z : Int)] w fun e w' => e = .returned (.int .u32 ((Mn 8 z : Nat) : Int)) ∧ w = w' := by
  go_enter Try.func19, Try.ntmps19
  go_wp2
  go_loop [0, 3, 4] (fun x _ i => ∃ k : Nat, k ≤ 8 ∧ i = .int .i64 k ∧ x = .int .u32 ((Mn k z : Nat) : Int)) (fun _ _ i => 8 - (intOf i).toNat)
  case atStart => exact ⟨0, by omega, rfl, rfl⟩
  case round =>
    obtain ⟨k, hk, rfl, rfl⟩ := hrel
    by_cases hlt : k < 8
    · have hs := Mn_succ k z
      have hy := Mn_lt k hz
      have HS := Lib.hid hs
      clear hs
      have hM : M (Mn k z) = if Mn k z % 2 = 1 then (Mn k z / 2) ^^^ 3988292384 else Mn k z / 2 := rfl
      have HM := Lib.hid hM
      clear hM
      generalize Mn k z = y at *
      rcases Nat.mod_two_eq_zero_or_one y with hp | hp
      · have hb := low0 hy hp
        have HP := Lib.hid hp
        clear hp
        go_wp2
        go_round
        case rel => exact ⟨k + 1, by omega, by go_num, by rw [HS.out, HM.out, if_neg (by have := HP.out; omega)]; go_num⟩
        case measure => simp [intOf]; omega
      · have hb := low1 hy hp
        have HP := Lib.hid hp
        clear hp
        go_wp2
        go_round
        case rel => exact ⟨k + 1, by omega, by go_num, by rw [HS.out, HM.out, if_pos HP.out, ← xorc _ _ (by omega) (by omega)]; rfl⟩
        case measure => simp [intOf]; omega
    · go_wp2
      go_ret
      exact ⟨ret_int (by rw [show k = 8 from by omega]), rfl⟩

theorem take_snoc (s : ByteArray) (k : Nat) (h : k < s.size) : s.data.toList.take (k + 1) = s.data.toList.take k ++ [s[k]] := by
  rw [List.take_succ_eq_append_getElem (by simpa using h)]; rfl
theorem step_of {x : Int} (z : Nat) (h : x = (z : Int)) (w : World) (hz : z < 4294967296) :
    Calls Try.prog 19 #[.int .u32 x] w fun e w' => e = .returned (.int .u32 ((Mn 8 z : Nat) : Int)) ∧ w = w' := by
  subst h; exact step_any z w hz
theorem xorb (q : Nat) (b : UInt8) (hq : q < 4294967296) : bits .xor .u32 (q : Int) ((b.toNat : Int) % 4294967296) = ((q ^^^ b.toNat : Nat) : Int) := by
  have hb := nat_lt b
  rw [show ((b.toNat : Int) % 4294967296) = ((b.toNat : Nat) : Int) from by omega]
  exact u32_xor_nat q _ hq (by omega)
theorem xorends (y : Nat) (hy : y < 4294967296) : bits .xor .u32 (y : Int) 4294967295 = ((y ^^^ 4294967295 : Nat) : Int) := xorc y 4294967295 hy (by omega)
set_option maxHeartbeats 400000 in
theorem add_any (z : Nat) (s : ByteArray) (w : World) (hz : z < 4294967296) (hs : s.size ≤ maxLen) :
    Calls Try.prog 11 #[.int .u32 (z : Int), .string s] w fun e w' => e = .returned (.int .u32 ((upds (z ^^^ 4294967295) (nats s.data.toList) ^^^ 4294967295 : Nat) : Int)) ∧ w = w' := by
  unfold maxLen at hs
  have hx := xorends z hz
  have hl := xor_lt hz (by omega : 4294967295 < 4294967296)
  generalize z ^^^ 4294967295 = y at *
  have HX := Lib.hid hx
  clear hx
  go_enter Try.func11, Try.ntmps11
  go_wp2
  go_loop [5, 6, 11] (fun r _ i => ∃ k : Nat, k ≤ s.size ∧ i = .int .i64 k ∧ r = .int .u32 ((upds y (nats (s.data.toList.take k)) : Nat) : Int)) (fun _ _ i => s.size - (intOf i).toNat)
  case atStart => exact ⟨0, by omega, rfl, by rw [HX.out]; rfl⟩
  case round =>
    obtain ⟨k, hk, rfl, rfl⟩ := hrel
    by_cases hlt : k < s.size
    · have hs := upds_snoc y (s.data.toList.take k) s[k]
      rw [← take_snoc s k hlt] at hs
      have hy := upds_lt (s.data.toList.take k) hl
      have hb := xor_lt hy (show s[k].toNat < 4294967296 by have := nat_lt s[k]; omega)
      have HS := Lib.hid hs
      clear hs
      generalize upds y (nats (s.data.toList.take k)) = q at *
      go_wp2_with fail
      refine (step_of _ (xorb q s[k] hy) _ hb).mono ?_
      rintro e w' ⟨rfl, rfl⟩
      go_wp2
      go_round
      case rel => exact ⟨k + 1, by omega, by go_num, by rw [HS.out]; rfl⟩
      case measure => simp [intOf]; omega
    · have hk' : s.data.toList.take k = s.data.toList := List.take_of_length_le (by simp; omega)
      rw [hk']
      have hy := upds_lt s.data.toList hl
      go_wp2
      go_ret
      exact ⟨ret_int (xorends _ hy), rfl⟩
theorem sum_any (s : ByteArray) (w : World) (hs : s.size ≤ maxLen) :
    Calls Try.prog 10 #[.string s] w fun e w' => e = .returned (.int .u32 ((sum s.data.toList : Nat) : Int)) ∧ w = w' := by
  go_enter Try.func10, Try.ntmps10
  go_wp2_with fail
  refine (add_any 0 s _ (by omega) hs).mono ?_
  rintro e w' ⟨rfl, rfl⟩
  go_wp2
  go_ret
  exact ⟨ret_int rfl, rfl⟩
set_option maxHeartbeats 1000000 in
theorem ref_any (s : ByteArray) (w : World) (hs : s.size ≤ maxLen) :
    Calls Try.prog 8 #[.string s] w fun e w' => e = .returned (.int .u32 ((sum s.data.toList : Nat) : Int)) ∧ w = w' := by
  unfold maxLen at hs
  go_enter Try.func8, Try.ntmps8
  go_wp2
  go_loop [3, 4, 5, 6] (fun r i _ _ => ∃ k : Nat, k ≤ s.size ∧ i = .int .i64 k ∧ r = .int .u32 ((upds 4294967295 (nats (s.data.toList.take k)) : Nat) : Int)) (fun _ i _ _ => s.size - (intOf i).toNat)
  case atStart => exact ⟨0, by omega, rfl, rfl⟩
  case round =>
    obtain ⟨k, hk, rfl, rfl⟩ := hrel
    by_cases hlt : k < s.size
    · have hs := upds_snoc 4294967295 (s.data.toList.take k) s[k]
      rw [← take_snoc s k hlt] at hs
      have hy := upds_lt (s.data.toList.take k) (by omega : 4294967295 < 4294967296)
      have hb := xor_lt hy (show s[k].toNat < 4294967296 by have := nat_lt s[k]; omega)
      have HS := Lib.hid hs
      clear hs
      generalize upds 4294967295 (nats (s.data.toList.take k)) = q at *
      have hx := xorb q s[k] hy
      have HX := Lib.hid hx
      clear hx
      go_wp2
      go_loop [3, 5, 6] (fun r i _ => ∃ j : Nat, j ≤ 8 ∧ i = .int .i64 j ∧ r = .int .u32 ((Mn j (q ^^^ s[k].toNat) : Nat) : Int)) (fun _ i _ => 8 - (intOf i).toNat)
      case atStart => exact ⟨0, by omega, rfl, by rw [HX.out]; rfl⟩
      case round =>
        obtain ⟨j, hj, rfl, rfl⟩ := hrel
        by_cases hlj : j < 8
        · have hs := Mn_succ j (q ^^^ s[k].toNat)
          have hy := Mn_lt j hb
          have HT := Lib.hid hs
          clear hs
          have hM : M (Mn j (q ^^^ s[k].toNat)) = if Mn j (q ^^^ s[k].toNat) % 2 = 1 then (Mn j (q ^^^ s[k].toNat) / 2) ^^^ 3988292384 else Mn j (q ^^^ s[k].toNat) / 2 := rfl
          have HM := Lib.hid hM
          clear hM
          generalize Mn j (q ^^^ s[k].toNat) = y at *
          rcases Nat.mod_two_eq_zero_or_one y with hp | hp
          · have hq : ((y : Int) % 2 == 1) = false := by rw [beq_eq_false_iff_ne]; omega
            have HP := Lib.hid hp
            clear hp
            go_wp2
            go_round
            case rel => exact ⟨j + 1, by omega, by go_num, by rw [HT.out, HM.out, if_neg (by have := HP.out; omega)]; go_num⟩
            case measure => simp [intOf]; omega
          · have hq : ((y : Int) % 2 == 1) = true := by rw [beq_iff_eq]; omega
            have HP := Lib.hid hp
            clear hp
            go_wp2
            go_round
            case rel => exact ⟨j + 1, by omega, by go_num, by rw [HT.out, HM.out, if_pos HP.out, ← xorc _ _ (by omega) (by omega)]; rfl⟩
            case measure => simp [intOf]; omega
        · obtain rfl : j = 8 := by omega
          go_wp2
          go_round
          case rel => exact ⟨k + 1, by omega, by go_num, by rw [HS.out]; rfl⟩
          case measure => simp [intOf]; omega
    · have hk' : s.data.toList.take k = s.data.toList := List.take_of_length_le (by simp; omega)
      rw [hk']
      have hy := upds_lt s.data.toList (by omega : 4294967295 < 4294967296)
      have he := sub_ends hy
      have HE := Lib.hid he
      clear he
      go_wp2
      go_ret
      exact ⟨ret_int (by unfold sum; rw [← HE.out]; omega), rfl⟩
end Go.Proofs.Ytbkipgbhhjfjfaa.Crc
