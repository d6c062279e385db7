/-
  Layer 23, the document's constants: the contract of Root.
-/
import Derived.Test.YtoabeohfbikpcaaDoorShaMost
set_option linter.unusedVariables false
set_option linter.unusedSimpArgs false
namespace Go.Proofs.YtoabeohfbikpcaaDoor.Sh
open Go.RowKit
open Rc
theorem rootN_lt (p f : Nat) : ∀ k, k ≤ 36 → rootN p f k + 2 ^ (36 - k) ≤ 68719476736
  | 0, _ => by simp [rootN]
  | k + 1, h => by
    have h1 := rootN_lt p f k (by omega)
    have e2 : 2 ^ (36 - k) = 2 * 2 ^ (35 - k) := by rw [show 36 - k = 35 - k + 1 by omega, Nat.pow_succ, Nat.mul_comm]
    rw [rootN, show 36 - (k + 1) = 35 - k by omega]
    split <;> omega
theorem halved {k : Nat} (h : k ≤ 35) : 34359738368 / 2 ^ k = 2 ^ (35 - k) := by
  rw [show 34359738368 = 2 ^ (35 - k) * 2 ^ k by rw [← Nat.pow_add, show 35 - k + k = 35 by omega]]
  exact Nat.mul_div_cancel _ (Nat.two_pow_pos k)
set_option maxRecDepth 100000 in
set_option maxHeartbeats 4000000 in
theorem root_any (p f : Nat) (hp : p ≤ 311) (hf : f = 2 ∨ f = 3) (w : World) :
    Calls Tryd.prog 12 #[.int .u64 (p : Int), .int .i64 (f : Int)] w fun z w' => z = .returned (.int .u32 ((root p f : Nat) : Int)) ∧ Below w.heap.size w w' := by
  have HMO := Lib.hid (fun (y : Nat) (hy : y < 68719476736) (W : World) => most_any y p f hy hp hf W)
  have HRT : Hid (root p f = md (rootN p f 36)) := Lib.hid rfl
  clear hf
  go_enter Tryd.func12, Tryd.ntmps12
  go_wp2_with fail
  go_loopw [5, 6, 7, 8, 9, 10, 11, 12, 13, 14, 15, 16, 17, 18, 19] (fun v b _ _ _ _ _ _ _ _ _ _ _ _ _ wr => ∃ k : Nat, k ≤ 36 ∧ v = .int .u64 ((rootN p f k : Nat) : Int) ∧ b = .int .u64 ((34359738368 / 2 ^ k : Nat) : Int) ∧ Below w.heap.size w wr) (fun _ b _ _ _ _ _ _ _ _ _ _ _ _ _ _ => (intOf b).toNat)
  case atStart => exact ⟨0, by omega, rfl, by simp, Below.refl _ _⟩
  case round =>
    obtain ⟨k, hk, rfl, rfl, hb⟩ := hrel
    have HB := Lib.hid hb
    clear hb
    have hrl := rootN_lt p f k hk
    by_cases hk36 : k < 36
    · have e1 := halved (k := k) (by omega)
      have e2 : 2 ^ (36 - k) = 2 * 2 ^ (35 - k) := by rw [show 36 - k = 35 - k + 1 by omega, Nat.pow_succ, Nat.mul_comm]
      have e3 : 34359738368 / 2 ^ (k + 1) = 34359738368 / 2 ^ k / 2 := by rw [Nat.div_div_eq_div_mul, Nat.pow_succ]
      have hpos := Nat.two_pow_pos (35 - k)
      have hs : rootN p f (k + 1) = if most (rootN p f k + 2 ^ (35 - k)) p f = true then rootN p f k + 2 ^ (35 - k) else rootN p f k := rfl
      rw [e1] at e3
      have HE3 := Lib.hid e3
      have HS := Lib.hid hs
      rw [e1]
      clear e1 e3 hs
      rw [e2] at hrl
      clear e2
      generalize rootN p f k = v at *
      generalize 2 ^ (35 - k) = b at *
      have hw1 : IntKind.u64.wrap ((v : Int) + (b : Int)) = ((v + b : Nat) : Int) := by rw [IntKind.wrap_u64]; omega
      have hg : (b : Int) > 0 := by omega
      have hh : (b : Int) / 2 = ((b / 2 : Nat) : Int) := by omega
      have ht : Int.tdiv (b : Int) 2 = ((b / 2 : Nat) : Int) := by rw [Int.tdiv_eq_ediv_of_nonneg (by omega)]; exact hh
      have hw2 : IntKind.u64.wrap ((b / 2 : Nat) : Int) = ((b / 2 : Nat) : Int) := by rw [IntKind.wrap_u64]; omega
      have hcb : b / 2 < b := by omega
      generalize b / 2 = c at *
      go_wp2_with fail
      refine (HMO.out (v + b) (by omega) wr).mono ?_
      rintro z w2 ⟨rfl, hb2⟩
      have HB2 := Lib.hid (HB.out.trans (hb2.mono HB.out.size))
      clear hb2
      cases hm : most (v + b) p f with
      | true =>
        rw [hm, if_pos rfl] at HS
        clear hm
        go_wp2_with fail
        go_roundw
        case rel => exact ⟨k + 1, by omega, by (rw [HS.out]; try (first | rfl | go_num | simp)), by rw [HE3.out], HB2.out⟩
        case measure => simp [intOf]; omega
      | false =>
        rw [hm, if_neg (by simp)] at HS
        clear hm
        go_wp2_with fail
        go_roundw
        case rel => exact ⟨k + 1, by omega, by (rw [HS.out]; try (first | rfl | go_num | simp)), by rw [HE3.out], HB2.out⟩
        case measure => simp [intOf]; omega
    · have hk' : k = 36 := by omega
      rw [hk'] at hrl ⊢
      have hz : (34359738368 / 2 ^ 36 : Nat) = 0 := by decide
      rw [hz]
      generalize rootN p f 36 = v at *
      have hr : (v : Int) % 4294967296 = ((v % 4294967296 : Nat) : Int) := by omega
      have hmd : md v = v % 4294967296 := rfl
      have hlt : v % 4294967296 < 4294967296 := by omega
      have hw : IntKind.u32.wrap ((v % 4294967296 : Nat) : Int) = ((v % 4294967296 : Nat) : Int) := by rw [IntKind.wrap_u32]; omega
      have HMD := Lib.hid hmd
      clear hk' hz hmd
      generalize v % 4294967296 = r at *
      go_wp2_with fail
      go_ret
      exact ⟨by rw [HRT.out, HMD.out]; rfl, HB.out⟩
end Go.Proofs.YtoabeohfbikpcaaDoor.Sh
