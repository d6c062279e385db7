/-
  The walks of the statements of layer 9.
-/
import Derived.Test.YtakbocaemlgbaaaStateRef
import Derived.BigQuiet
namespace Go.Proofs.Ytakbocaemlgbaaa.St
open Go.RowKit
theorem base4 (w : World) : Calls Try.prog 22 #[.int .i64 4] w fun x w' => x = .returned (.tuple #[.int .u32 4, .int .i64 1]) ∧ w = w' := base_any 4 (by omega) (by omega) w
theorem slot5 (w : World) : Calls Try.prog 21 #[.int .u32 5] w fun x w' => x = .returned (.int .i64 4) ∧ w = w' := by
  have h := slot_any 5 (by omega) w
  have e : slot 5 = 4 := by
    have : Nat.log2 5 = 2 := log_uniq (by omega) (by omega)
    unfold slot; rw [this]; decide
  rw [e] at h
  exact h
theorem speaks9 (w : World) : Calls Try.prog 17 #[] w fun x w' => x = .returned (.bool true) ∧ w = w' := by
  have HN0 := Lib.hid (next_any 0 2 (by omega) (by omega))
  have HN8 := Lib.hid (next_any 8 1 (by omega) (by omega))
  have e0 : nxt 0 2 = 7 := by decide
  have e8 : nxt 8 1 = 5 := by decide
  rw [e0] at HN0
  rw [e8] at HN8
  clear e0 e8
  go_enter Try.func17, Try.ntmps17
  go_wp2_with fail
  refine (base4 _).mono ?_
  rintro x w1 ⟨rfl, rfl⟩
  go_wp2_with fail
  refine (slot5 _).mono ?_
  rintro x w1 ⟨rfl, rfl⟩
  go_wp2_with fail
  refine (HN0.out _).mono ?_
  rintro x w1 ⟨rfl, rfl⟩
  go_wp2_with fail
  refine (HN8.out _).mono ?_
  rintro x w1 ⟨rfl, rfl⟩
  go_wp2_with fail
  refine (lit_any 7 _).mono ?_
  rintro x w1 ⟨rfl, rfl⟩
  go_wp2_with fail
  go_ret
  exact ⟨rfl, rfl⟩
/-- A list of ints in memory. -/
def IsInts (w : World) (a : Option Addr) (len : Nat) : Prop := len = 0 ∨ ∃ b off, a = some ⟨b, off, none⟩ ∧ b < w.heap.size ∧ ∀ i, i < len → ∃ x : Int, w.cell? ⟨b, off + i, none⟩ = some (.int .i64 x)
theorem still9 {f : Nat} {args : Array Value} {w : World} {v : Value} (h : Calls Try.prog f args w fun x w' => x = .returned v ∧ w = w') : Calls Try.prog f args w fun x w' => x = .returned v ∧ w' = w := h.mono fun _ _ ⟨a, b⟩ => ⟨a, b.symm⟩
set_option maxRecDepth 100000 in
set_option maxHeartbeats 4000000 in
theorem slots_walk (d : Nat) (slo n : Int) (h : d < 4294967296) (hs0 : -9223372036854775808 ≤ slo) (hs1 : slo ≤ 9223372036854775807) (hn0 : -9223372036854775808 ≤ n) (hn1 : n ≤ 9223372036854775807) (w : World) :
    Calls Try.prog 7 #[.int .u32 (d : Int), .int .i64 slo, .int .i64 n] w fun x w' => x = .returned (.bool true) ∧ ∃ n, w' = w.drewN n := by
  have HS := Lib.hid (slot_any d h)
  have HR := Lib.hid (refslot_any d h)
  have hsl := slot_lt h
  have hB := base_any (slot d : Int) (by omega) (by omega)
  rw [if_pos (by omega), if_pos (by omega), Int.toNat_natCast] at hB
  have HB := Lib.hid hB
  have HBS := base_slot d
  have hm : more (slot d) ≤ 30 := by unfold more; split <;> omega
  have hd : (d : Int) < 4294967296 := by omega
  clear hB h
  generalize slot d = sl at *
  generalize base sl = bs at *
  generalize more sl = mo at *
  have b1 : (bs : Int) ≤ (d : Int) := by have := HBS.1; omega
  have b2 : Hid (¬ ((2 : Int) ^ mo ≤ (d : Int) - (bs : Int))) := Lib.hid (by
    have h2 := HBS.2
    have e : ((2 : Int) ^ mo) = ((2 ^ mo : Nat) : Int) := by push_cast; rfl
    rw [e]; omega)
  clear HBS
  go_enter Try.func7, Try.ntmps7
  go_wp2_with fail
  refine (speaks9 _).mono ?_
  rintro x w1 ⟨rfl, rfl⟩
  go_wp2_with fail
  refine (HS.out _).mono ?_
  rintro x w1 ⟨rfl, rfl⟩
  go_wp2_with fail
  refine (HB.out _).mono ?_
  rintro x w1 ⟨rfl, rfl⟩
  go_wp2_with fail
  refine (HR.out _).mono ?_
  rintro x w1 ⟨rfl, m1, rfl⟩
  clear HS HB HR
  have c1 : decide (d < bs) = false := by simp; omega
  have c2 : decide ((mo : Int) < 0) = false := by simp
  have c3 : decide (30 < (mo : Int)) = false := by simp; omega
  have c4 : IntKind.u32.wrap ((d : Int) - (bs : Int)) = (d : Int) - (bs : Int) := by rw [IntKind.wrap_u32]; omega
  have c5 : IntKind.u64.wrap ((d : Int) - (bs : Int)) = (d : Int) - (bs : Int) := by rw [IntKind.wrap_u64]; omega
  have c6 : (2 : Int) ^ mo % 18446744073709551616 = 2 ^ mo := by
    have h1 : 2 ^ mo ≤ 2 ^ 30 := Nat.pow_le_pow_right (by omega) hm
    have e : ((2 : Int) ^ mo) = ((2 ^ mo : Nat) : Int) := by push_cast; rfl
    have h0 : (0 : Int) ≤ ((2 ^ mo : Nat) : Int) := Int.natCast_nonneg _
    rw [e]; omega
  have c7 : (0 : Int) ≤ (mo : Int) := by omega
  have c8 : (mo : Int) < 64 := by omega
  have b3 := b2.out
  clear hm hsl hd b2
  go_wp2_with fail
  clear b3 c1 c2 c3 c4 c5 c6 c7 c8 b1
  have HC := Lib.hid (class_any n hn0 hn1)
  have HB2 := Lib.hid (base_any slo hs0 hs1)
  have key : (∃ m : Nat, m < 64 ∧ slo = (m : Int)) ∨ ¬ (0 ≤ slo ∧ slo < 64) := by
    by_cases h : 0 ≤ slo ∧ slo < 64
    · exact .inl ⟨slo.toNat, by omega, by omega⟩
    · exact .inr h
  rcases key with ⟨m, hm, rfl⟩ | hout
  · have HBm := Lib.hid (base_any (m : Int) hs0 hs1)
    rw [if_pos (by omega), if_pos (by omega), Int.toNat_natCast] at HBm
    have HRB := Lib.hid (refbase_any m hm)
    have e1 : (0 : Int) ≤ (m : Int) := by omega
    have e2 : (m : Int) < 64 := by omega
    have HL : Hid (IntKind.u64.wrap (base m : Int) = (base m : Int)) := Lib.hid (by have := base_lt hm; rw [IntKind.wrap_u64]; omega)
    generalize base m = bm at *
    generalize more m = mm at *
    clear HB2 hm
    refine (HBm.out _).mono ?_
    rintro x w2 ⟨rfl, rfl⟩
    go_wp2_with fail
    refine (HRB.out _).mono ?_
    rintro x w3 ⟨rfl, m3, rfl⟩
    clear HBm HRB
    have e3 := HL.out
    clear HL
    by_cases h6 : n < 6
    · have e4 : min (max n 2) 5 - 2 = max n 2 - 2 := by omega
      rw [e4] at HC
      clear e4
      go_wp2_with fail
      refine (HC.out _).mono ?_
      rintro x w3 ⟨rfl, rfl⟩
      go_wp2_with fail
      go_ret
      exact ⟨rfl, _, rfl⟩
    · have e4 : min (max n 2) 5 - 2 = 3 := by omega
      rw [e4] at HC
      clear e4
      go_wp2_with fail
      refine (HC.out _).mono ?_
      rintro x w3 ⟨rfl, rfl⟩
      go_wp2_with fail
      go_ret
      exact ⟨rfl, _, rfl⟩
  · rw [if_neg hout, if_neg hout] at HB2
    refine (HB2.out _).mono ?_
    rintro x w2 ⟨rfl, rfl⟩
    clear HB2
    by_cases h0 : slo < 0
    · have e1 : ¬ (0 : Int) ≤ slo := by omega
      by_cases h6 : n < 6
      · have e4 : min (max n 2) 5 - 2 = max n 2 - 2 := by omega
        rw [e4] at HC
        clear e4
        go_wp2_with fail
        refine (HC.out _).mono ?_
        rintro x w3 ⟨rfl, rfl⟩
        go_wp2_with fail
        go_ret
        exact ⟨rfl, _, rfl⟩
      · have e4 : min (max n 2) 5 - 2 = 3 := by omega
        rw [e4] at HC
        clear e4
        go_wp2_with fail
        refine (HC.out _).mono ?_
        rintro x w3 ⟨rfl, rfl⟩
        go_wp2_with fail
        go_ret
        exact ⟨rfl, _, rfl⟩
    · have e1 : (0 : Int) ≤ slo := by omega
      have e2 : ¬ slo < 64 := by omega
      by_cases h6 : n < 6
      · have e4 : min (max n 2) 5 - 2 = max n 2 - 2 := by omega
        rw [e4] at HC
        clear e4
        go_wp2_with fail
        refine (HC.out _).mono ?_
        rintro x w3 ⟨rfl, rfl⟩
        go_wp2_with fail
        go_ret
        exact ⟨rfl, _, rfl⟩
      · have e4 : min (max n 2) 5 - 2 = 3 := by omega
        rw [e4] at HC
        clear e4
        go_wp2_with fail
        refine (HC.out _).mono ?_
        rintro x w3 ⟨rfl, rfl⟩
        go_wp2_with fail
        go_ret
        exact ⟨rfl, _, rfl⟩
set_option maxHeartbeats 4000000 in
theorem next_walk (f : Nat) (a : Option Addr) (len cap : Nat) (hl : len ≤ maxLen) (w : World) (ha : IsInts w a len) :
    Calls Try.prog 6 #[.int .u8 (f : Int), .slice a len cap] w fun x w' => x = .returned (.bool true) ∧ ∃ n, w' = w.drewN n := by
  unfold maxLen at hl
  have HA := Lib.hid ha
  have hm0 : 0 ≤ (f : Int) % 12 := by omega
  have hm1 : (f : Int) % 12 ≤ 11 := by omega
  clear ha
  go_enter Try.func6, Try.ntmps6
  go_wp2_with fail
  refine (speaks9 _).mono ?_
  rintro x w1 ⟨rfl, rfl⟩
  go_wp2_with fail
  go_loopw [5, 6, 7] (fun v5 v6 v7 wr => ∃ (s : Int) (k m : Nat), 0 ≤ s ∧ s ≤ 11 ∧ k ≤ len ∧ k ≤ 40 ∧ v5 = .int .i64 s ∧ v6 = .int .i64 s ∧ v7 = .int .i64 k ∧ wr = w.drewN m) (fun _ _ v7 _ => 40 - (intOf v7).toNat)
  case atStart => exact ⟨_, 0, 0, hm0, hm1, by omega, by omega, rfl, rfl, rfl, rfl⟩
  case round =>
    obtain ⟨s, k, m, hs0, hs1, hk, hk40, rfl, rfl, rfl, rfl⟩ := hrel
    by_cases hlt : k < len ∧ k < 40
    · obtain ⟨hlt1, hlt2⟩ := hlt
      obtain ⟨b, off, rfl, hb, hc⟩ : ∃ b off, a = some ⟨b, off, none⟩ ∧ b < w.heap.size ∧ ∀ i, i < len → ∃ x : Int, w.cell? ⟨b, off + i, none⟩ = some (.int .i64 x) := HA.out.resolve_left (by omega)
      obtain ⟨x, hx⟩ := hc k hlt1
      clear hc HA
      have HN := Lib.hid (next_any s x hs0 hs1)
      have HR := Lib.hid (ref_any s x hs0 hs1)
      obtain ⟨n0, n1⟩ := nxt_in (k := x) hs0 hs1
      generalize nxt s x = s' at *
      have e1 : (0 : Int) ≤ (k : Int) := by omega
      have e2 : (k : Int) < (len : Int) := by omega
      have e3 : (k : Int).toNat = k := by omega
      obtain ⟨wa, hwa⟩ : ∃ wa, wa = w.drewN m := ⟨_, rfl⟩
      have hxa : wa.cell? ⟨b, off + k, none⟩ = some (.int .i64 x) := by rw [hwa]; simpa using hx
      rw [← hwa]
      have HWA := Lib.hid hwa
      clear hwa hx
      go_wp2_with fail
      go_quiet ((first | (go_at_call 18; exact Calls.quiet_of_same (still9 (HN.out _))) | (go_at_call 19; exact Calls.quiet_of_same (still9 (HR.out _)))))
      clear HN HR
      go_wp2_with fail
      refine (lit_any _ _).mono ?_
      rintro x w5 ⟨rfl, rfl⟩
      have c1 : ¬ s' < 0 := by omega
      have c2 : ¬ 11 < s' := by omega
      go_wp2_with fail
      go_roundw
      case rel => exact ⟨s', k + 1, _, n0, n1, by omega, by omega, rfl, rfl, by go_num, by rw [HWA.out, World.drewN_drewN]⟩
      case measure => simp [intOf]; omega
    · by_cases hlt1 : k < len
      · obtain rfl : k = 40 := by omega
        go_wp2_with fail
        go_ret
        exact ⟨rfl, _, rfl⟩
      · go_wp2_with fail
        go_ret
        exact ⟨rfl, _, rfl⟩
end Go.Proofs.Ytakbocaemlgbaaa.St
