/-
  Layer 23, the document's constants: the contracts of its Prime, turned, down (they write nothing).
-/
import Derived.Test.YtoabeohfbikpcaaDoorShaMath
import Derived.Test.YtoabeohfbikpcaaDoorRows
import Derived.WalkSpells
import Derived.WalkLawsBesides
import Derived.ProofKit
import Derived.Outline
import Derived.Lib.Hide
set_option linter.unusedVariables false
set_option linter.unusedSimpArgs false
namespace Go.Proofs.YtoabeohfbikpcaaDoor.Sh
open Go.RowKit
theorem nx_ge {f n p : Nat} (h : nx f n = some p) : n ≤ p := nx_le h
set_option maxRecDepth 100000 in
set_option maxHeartbeats 4000000 in
theorem prime_any (i : Nat) (hi : i < 64) (w : World) :
    Calls Tryd.prog 13 #[.int .i64 (i : Int)] w fun x w' => x = .returned (.int .u64 ((prs (i + 1) : Nat) : Int)) ∧ w = w' := by
  have HN := Lib.hid (fun k (hk : k < 64) => prs_next hk)
  go_enter Tryd.func13, Tryd.ntmps13
  go_wp2_with fail
  go_loop [3, 4, 5, 6, 12, 13, 14, 15, 16, 17, 18, 19, 20, 21, 22, 23, 24, 25, 26, 27] (fun n k _ _ _ _ _ _ _ _ _ _ _ _ _ _ _ _ _ _ => ∃ j : Nat, j ≤ i + 1 ∧ k = .int .i64 ((j : Int) - 1) ∧ n = .int .u64 ((prs j : Nat) : Int) ∧ prs j ≤ 311) (fun _ k _ _ _ _ _ _ _ _ _ _ _ _ _ _ _ _ _ _ => i + 2 - (intOf k + 1).toNat)
  case atStart => exact ⟨0, by omega, rfl, rfl, by decide⟩
  case round =>
    obtain ⟨j, hj, rfl, rfl, h311⟩ := hrel
    by_cases hlt : j < i + 1
    · obtain ⟨hx, hq⟩ := HN.out j (by omega)
      have HX := Lib.hid hx
      have hle := nx_le hx
      have hw0 : IntKind.u64.wrap (((prs j : Nat) : Int) + 1) = ((prs j + 1 : Nat) : Int) := by rw [IntKind.wrap_u64]; omega
      have hd0 : ((j : Int) - 1) < (i : Int) := by omega
      clear hx
      generalize hPj : prs (j + 1) = P at *
      have HPJ := Lib.hid hPj
      clear hPj
      generalize prs j + 1 = M0 at *
      generalize prs j = Q at *
      go_wp2_with fail
      go_loop [3, 5, 6, 14, 15, 16, 17, 18, 19, 20, 21, 22, 23, 24, 25, 26, 27] (fun n _ _ _ _ _ _ _ _ _ _ _ _ _ _ _ _ => ∃ m f : Nat, m ≤ P ∧ n = .int .u64 (m : Int) ∧ nx f m = some P) (fun n _ _ _ _ _ _ _ _ _ _ _ _ _ _ _ _ => P + 1 - (intOf n).toNat)
      case atStart => exact ⟨M0, 50, hle, rfl, HX.out⟩
      case round =>
        obtain ⟨m, f, hm, rfl, hf⟩ := hrel
        have HF := Lib.hid hf
        have hw1 : IntKind.u64.wrap ((m : Int) + 1) = ((m + 1 : Nat) : Int) := by rw [IntKind.wrap_u64]; omega
        clear hf
        go_wp2_with fail
        go_loop [5, 6, 16, 17, 18, 19, 20, 21, 22, 23, 24, 25, 26] (fun v e _ _ _ _ _ _ _ _ _ _ _ => ∃ (d : Nat) (b : Bool), 2 ≤ d ∧ d ≤ m + 2 ∧ v = .bool b ∧ e = .int .u64 (d : Int) ∧ wl m (m + 2 - d) d b = isP m) (fun _ e _ _ _ _ _ _ _ _ _ _ _ => m + 2 - (intOf e).toNat)
        case atStart => exact ⟨2, true, by omega, by omega, rfl, rfl, rfl⟩
        case round =>
          obtain ⟨d, b, hd2, hdm, rfl, rfl, hwl⟩ := hrel
          have HW := Lib.hid hwl
          clear hwl
          have hdd : d * d ≤ 320 * 320 := Nat.mul_le_mul (by omega) (by omega)
          have hds : d ≤ d * d := Nat.le_mul_self d
          have hw2 : IntKind.u64.wrap ((d : Int) * (d : Int)) = ((d * d : Nat) : Int) := by rw [← Int.natCast_mul, IntKind.wrap_u64]; omega
          have hw3 : IntKind.u64.wrap ((d : Int) + 1) = ((d + 1 : Nat) : Int) := by rw [IntKind.wrap_u64]; omega
          generalize hD : d * d = D at *
          by_cases hc : D ≤ m
          · have hc1 : ((D : Nat) : Int) ≤ (m : Int) := by omega
            have hr : Int.tmod (m : Int) (d : Int) = ((m % d : Nat) : Int) := by rw [Int.tmod_eq_emod_of_nonneg (by omega)]; exact (Int.natCast_emod _ _).symm
            have hnz : ¬ (d : Int) = 0 := by omega
            have hdle : d ≤ m := by omega
            have hs := wl_step (n := m) (d := d) (by omega) (m + 1 - d) b
            rw [show m + 1 - d + 1 = m + 2 - d by omega, HW.out] at hs
            have HS := Lib.hid hs
            clear hs hdd hds
            by_cases hz : m % d = 0
            · have hz1 : ((m % d : Nat) : Int) = 0 := by omega
              rw [if_pos hz] at HS
              go_wp2_with fail
              go_round
              case rel => exact ⟨d + 1, false, by omega, by omega, rfl, by go_num, by rw [show m + 2 - (d + 1) = m + 1 - d by omega, HS.out]⟩
              case measure => simp [intOf]; omega
            · have hz1 : ¬ ((m % d : Nat) : Int) = 0 := by omega
              rw [if_neg hz] at HS
              go_wp2_with fail
              go_round
              case rel => exact ⟨d + 1, b, by omega, by omega, rfl, by go_num, by rw [show m + 2 - (d + 1) = m + 1 - d by omega, HS.out]⟩
              case measure => simp [intOf]; omega
          · have hc1 : ¬ ((D : Nat) : Int) ≤ (m : Int) := by omega
            have hb := wl_done (n := m) (d := d) (by omega) (m + 2 - d) b
            rw [HW.out] at hb
            cases b with
            | true =>
              have hy := Lib.hid (nx_yes HF.out hb)
              clear hb hdd hds
              go_wp2_with fail
              go_round
              case rel => exact ⟨j + 1, by omega, by go_num, by rw [HPJ.out, hy.out], by rw [HPJ.out]; exact hq⟩
              case measure => simp [intOf]; omega
            | false =>
              obtain ⟨g, hy⟩ := nx_no HF.out hb
              have hle2 := nx_le hy
              have HY := Lib.hid hy
              clear hb hdd hds hy
              go_wp2_with fail
              go_round
              case rel => exact ⟨m + 1, g, by omega, by go_num, HY.out⟩
              case measure => simp [intOf]; omega
    · obtain rfl : j = i + 1 := by omega
      have hd0 : ¬ (((i + 1 : Nat) : Int) - 1) < (i : Int) := by omega
      go_wp2_with fail
      go_ret
      exact ⟨rfl, rfl⟩
set_option maxRecDepth 100000 in
set_option maxHeartbeats 4000000 in
theorem turned_any (x n : Nat) (hx : x < 4294967296) (hn : n ≤ 32) (w : World) :
    Calls Tryd.prog 14 #[.int .u32 (x : Int), .int .i64 (n : Int)] w fun z w' => z = .returned (.int .u32 ((tr n x : Nat) : Int)) ∧ w = w' := by
  go_enter Tryd.func14, Tryd.ntmps14
  go_wp2_with fail
  go_loop [0, 5, 6, 7, 8, 9, 10, 11, 12, 13, 14, 15, 16] (fun v i _ _ _ _ _ _ _ _ _ _ _ => ∃ j : Nat, j ≤ n ∧ i = .int .i64 (j : Int) ∧ v = .int .u32 ((tr j x : Nat) : Int)) (fun _ i _ _ _ _ _ _ _ _ _ _ _ => n - (intOf i).toNat)
  case atStart => exact ⟨0, by omega, rfl, rfl⟩
  case round =>
    obtain ⟨j, hj, rfl, rfl⟩ := hrel
    by_cases hlt : j < n
    · have hy := tr_lt hx j
      have hs : tr (j + 1) x = tr1 (tr j x) := rfl
      have HS := Lib.hid hs
      clear hs
      generalize tr j x = y at *
      have h1 : Int.tdiv (y : Int) 2 = ((y / 2 : Nat) : Int) := by rw [Int.tdiv_eq_ediv_of_nonneg (by omega)]; omega
      have h2 : Int.tmod (y : Int) 2 = ((y % 2 : Nat) : Int) := by rw [Int.tmod_eq_emod_of_nonneg (by omega)]; omega
      have h3 : IntKind.u32.wrap (((y % 2 : Nat) : Int) * 2147483648) = ((y % 2 * 2147483648 : Nat) : Int) := by rw [IntKind.wrap_u32]; omega
      have h4 : IntKind.u32.wrap (((y / 2 : Nat) : Int) + ((y % 2 * 2147483648 : Nat) : Int)) = ((y / 2 + y % 2 * 2147483648 : Nat) : Int) := by rw [IntKind.wrap_u32]; omega
      go_wp2_with fail
      go_round
      case rel => exact ⟨j + 1, by omega, by go_num, by rw [HS.out]; unfold tr1; first | rfl | go_num⟩
      case measure => simp [intOf]; omega
    · obtain rfl : j = n := by omega
      go_wp2_with fail
      go_ret
      exact ⟨rfl, rfl⟩
set_option maxRecDepth 100000 in
set_option maxHeartbeats 4000000 in
theorem down_any (x n : Nat) (hx : x < 4294967296) (hn : n ≤ 32) (w : World) :
    Calls Tryd.prog 15 #[.int .u32 (x : Int), .int .i64 (n : Int)] w fun z w' => z = .returned (.int .u32 ((dn n x : Nat) : Int)) ∧ w = w' := by
  go_enter Tryd.func15, Tryd.ntmps15
  go_wp2_with fail
  go_loop [0, 5, 6, 7, 8, 9, 10, 11, 12] (fun v i _ _ _ _ _ _ _ => ∃ j : Nat, j ≤ n ∧ i = .int .i64 (j : Int) ∧ v = .int .u32 ((dn j x : Nat) : Int)) (fun _ i _ _ _ _ _ _ _ => n - (intOf i).toNat)
  case atStart => exact ⟨0, by omega, rfl, rfl⟩
  case round =>
    obtain ⟨j, hj, rfl, rfl⟩ := hrel
    by_cases hlt : j < n
    · have hy := dn_le x j
      have hs : dn (j + 1) x = dn j x / 2 := rfl
      have HS := Lib.hid hs
      clear hs
      generalize dn j x = y at *
      have h1 : Int.tdiv (y : Int) 2 = ((y / 2 : Nat) : Int) := by rw [Int.tdiv_eq_ediv_of_nonneg (by omega)]; omega
      go_wp2_with fail
      go_round
      case rel => exact ⟨j + 1, by omega, by go_num, by rw [HS.out]; first | rfl | go_num⟩
      case measure => simp [intOf]; omega
    · obtain rfl : j = n := by omega
      go_wp2_with fail
      go_ret
      exact ⟨rfl, rfl⟩
end Go.Proofs.YtoabeohfbikpcaaDoor.Sh
