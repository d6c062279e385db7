/-
  Layer 23, the program's: the words of a chunk.
-/
import Derived.Test.YtoabeohfbikpcaaDoorShaDev
set_option linter.unusedVariables false
set_option linter.unusedSimpArgs false
namespace Go.Proofs.YtoabeohfbikpcaaDoor.Sh
open Go.RowKit
open Rc
theorem or32 {a b : Nat} (ha : a < 4294967296) (hb : b < 4294967296) : a ||| b < 4294967296 := Nat.or_lt_two_pow (n := 32) ha hb
/-- A word out of its bytes, moved up and laid together. -/
theorem word_or (b0 b1 b2 b3 : Nat) (h0 : b0 < 256) (h1 : b1 < 256) (h2 : b2 < 256) (h3 : b3 < 256) : ((b0 * 16777216 ||| b1 * 65536) ||| b2 * 256) ||| b3 = 16777216 * b0 + 65536 * b1 + 256 * b2 + b3 := by
  have e1 : b0 * 16777216 ||| b1 * 65536 = (b0 * 256 + b1) * 65536 := by
    rw [show b0 * 16777216 = 2 ^ 24 * b0 by omega, ← Nat.two_pow_add_eq_or_of_lt (by omega : b1 * 65536 < 2 ^ 24)]
    omega
  have e2 : (b0 * 256 + b1) * 65536 ||| b2 * 256 = (b0 * 65536 + b1 * 256 + b2) * 256 := by
    rw [show (b0 * 256 + b1) * 65536 = 2 ^ 16 * (b0 * 256 + b1) by omega, ← Nat.two_pow_add_eq_or_of_lt (by omega : b2 * 256 < 2 ^ 16)]
    omega
  rw [e1, e2, show (b0 * 65536 + b1 * 256 + b2) * 256 = 2 ^ 8 * (b0 * 65536 + b1 * 256 + b2) by omega, ← Nat.two_pow_add_eq_or_of_lt (by omega : b3 < 2 ^ 8)]
  omega
theorem q24 {b : Nat} (h : b < 256) : b * 16777216 < 4294967296 := by omega
theorem q16 {b : Nat} (h : b < 256) : b * 65536 < 4294967296 := by omega
theorem q8 {b : Nat} (h : b < 256) : b * 256 < 4294967296 := by omega
set_option maxRecDepth 100000 in
theorem word_is (b0 b1 b2 b3 : Nat) (h0 : b0 < 256) (h1 : b1 < 256) (h2 : b2 < 256) (h3 : b3 < 256) : ∃ p0 p1 p2 p3 p4 : Nat, IntKind.u32.wrap ((b0 : Int) * 16777216) = (p0 : Int) ∧ IntKind.u32.wrap ((b1 : Int) * 65536) = (p1 : Int) ∧ IntKind.u32.wrap ((b2 : Int) * 256) = (p2 : Int) ∧ bits .or .u32 (p0 : Int) (p1 : Int) = (p3 : Int) ∧ bits .or .u32 (p3 : Int) (p2 : Int) = (p4 : Int) ∧ bits .or .u32 (p4 : Int) (b3 : Int) = ((16777216 * b0 + 65536 * b1 + 256 * b2 + b3 : Nat) : Int) := by
  have q0 := q24 h0
  have q1 := q16 h1
  have q2 := q8 h2
  have q3 : b3 < 4294967296 := by omega
  refine ⟨b0 * 16777216, b1 * 65536, b2 * 256, b0 * 16777216 ||| b1 * 65536, (b0 * 16777216 ||| b1 * 65536) ||| b2 * 256, ?_, ?_, ?_, u32_or_nat _ _ q0 q1, u32_or_nat _ _ (or32 q0 q1) q2, ?_⟩
  · rw [IntKind.wrap_u32]; omega
  · rw [IntKind.wrap_u32]; omega
  · rw [IntKind.wrap_u32]; omega
  · rw [u32_or_nat _ _ (or32 (or32 q0 q1) q2) q3, word_or b0 b1 b2 b3 h0 h1 h2 h3]
theorem words_any (L : List Nat) (h : L.length = 16) : ∃ F : Nat → List Nat, F 0 = List.replicate 32 0 ∧ (∀ i, i < 16 → (F i).length = 32 ∧ (F i).set i (L.getD i 0) = F (i + 1)) ∧ F 16 = L ++ List.replicate 16 0 := by
  match L, h with
  | [a0, a1, a2, a3, a4, a5, a6, a7, a8, a9, a10, a11, a12, a13, a14, a15], _ =>
    refine ⟨fun i => [a0, a1, a2, a3, a4, a5, a6, a7, a8, a9, a10, a11, a12, a13, a14, a15].take i ++ List.replicate (32 - i) 0, rfl, fun i hi => ?_, rfl⟩
    match i, hi with
    | 0, _ | 1, _ | 2, _ | 3, _ | 4, _ | 5, _ | 6, _ | 7, _ | 8, _ | 9, _ | 10, _ | 11, _ | 12, _ | 13, _ | 14, _ | 15, _ => exact ⟨rfl, rfl⟩
    | n + 16, hi => exact absurd hi (by omega)
theorem info32w : (Tryd.prog.info? 55).map (·.size) = some 32 := by kernel_rfl
theorem zero32 : (#[.int .u32 0, .int .u32 0, .int .u32 0, .int .u32 0, .int .u32 0, .int .u32 0, .int .u32 0, .int .u32 0, .int .u32 0, .int .u32 0, .int .u32 0, .int .u32 0, .int .u32 0, .int .u32 0, .int .u32 0, .int .u32 0, .int .u32 0, .int .u32 0, .int .u32 0, .int .u32 0, .int .u32 0, .int .u32 0, .int .u32 0, .int .u32 0, .int .u32 0, .int .u32 0, .int .u32 0, .int .u32 0, .int .u32 0, .int .u32 0, .int .u32 0, .int .u32 0] : Array Value) = arr32 (List.replicate 32 0) := rfl
set_option maxRecDepth 100000 in
set_option maxHeartbeats 4000000 in
theorem wordsOf_any (s : List UInt8) (hs : s.length = 64) (w : World) :
    Calls Tryd.prog 25 #[.string (tx s)] w fun z w' => z = .returned (.agg (arr32 (wsAt s 0 ++ List.replicate 16 0))) ∧ Below w.heap.size w w' := by
  have hS : (tx s).size = 64 := by rw [tx_size, hs]
  have HUA := Lib.hid (fun (i : Nat) (h : i < (tx s).size) => show ((tx s)[i].toNat : Nat) = bAt s i by rw [tx_get]; rfl)
  obtain ⟨F, hF0, hFn, hF16⟩ := words_any (wsAt s 0) (wsAt_length s 0)
  have hll : (wsAt s 0 ++ List.replicate 16 0).length = 32 := by rw [List.length_append, wsAt_length]; rfl
  generalize wsAt s 0 ++ List.replicate 16 0 = Z at *
  have HFN := Lib.hid hFn
  have HF16 := Lib.hid hF16
  have HLL := Lib.hid hll
  have HWA := Lib.hid (fun i (hi : i < 16) => show (wsAt s 0).getD i 0 = wAt s (4 * i) by rw [wsAt_get s 0 hi, Nat.zero_add])
  have HR0 : Hid (RD w w.heap.size 55 (F 0) (w.alloc (.cells (arr32 (F 0)) 55))) := Lib.hid ⟨(Below.refl _ _).alloc (Nat.le_refl _) _, heap_alloc_new _ _⟩
  rw [hF0] at HR0
  clear hFn hF16 hll
  generalize tx s = U at *
  go_enter Tryd.func25, Tryd.ntmps25
  go_upto_region 1 with (fail)
  rw [zero32]
  obtain ⟨D, hD⟩ : ∃ D, D = w.heap.size := ⟨_, rfl⟩
  rw [← hD] at HR0 ⊢
  have hds : w.heap.size ≤ D := by omega
  clear hD
  generalize w.alloc (.cells (arr32 (List.replicate 32 0)) 55) = W0 at *
  rw [← hF0] at HR0
  clear hF0
  --@1
  go_wp2_with fail
  go_loopw [3, 4, 5, 6, 7, 8, 9, 10, 11, 12, 13, 14, 15, 16, 17, 18, 19, 20, 21, 22, 23, 24, 25, 26, 27, 28, 29, 30, 31, 32, 33, 34, 35] (fun _ _ i _ _ _ _ _ _ _ _ _ _ _ _ _ _ _ _ _ _ _ _ _ _ _ _ _ _ _ _ _ _ wr => ∃ k : Nat, k ≤ 16 ∧ i = .int .i64 (k : Int) ∧ RD w D 55 (F k) wr) (fun _ _ i _ _ _ _ _ _ _ _ _ _ _ _ _ _ _ _ _ _ _ _ _ _ _ _ _ _ _ _ _ _ _ => 16 - (intOf i).toNat)
  case atStart => exact ⟨0, by omega, rfl, HR0.out⟩
  case round =>
    clear HR0
    obtain ⟨k, hk, rfl, hR⟩ := hrel
    have HR := Lib.hid hR
    clear hR
    by_cases hlt : k < 16
    · as_aux_lemma =>
      obtain ⟨f1, f2⟩ := HFN.out k hlt
      have HF2 := Lib.hid f2
      have hx : (U.extract (4 * k) (4 * k + 4)).size = 4 := by simp; omega
      have hg : ∀ j (hj : j < 4), ((U.extract (4 * k) (4 * k + 4))[j]'(by omega)).toNat = bAt s (4 * k + j) := by
        intro j hj
        rw [← HUA.out (4 * k + j) (by omega)]
        congr 1
        simp [ByteArray.getElem_extract]
      have g0 : ((U.extract (4 * k) (4 * k + 4))[0]'(by omega)).toNat = bAt s (4 * k) := hg 0 (by omega)
      have g1 := hg 1 (by omega)
      have g2 := hg 2 (by omega)
      have g3 := hg 3 (by omega)
      have HV := HWA.out k hlt
      clear hg f2
      have a0 := bAt_lt s (4 * k)
      have a1 := bAt_lt s (4 * k + 1)
      have a2 := bAt_lt s (4 * k + 2)
      have a3 := bAt_lt s (4 * k + 3)
      unfold wAt at HV
      generalize bAt s (4 * k) = b0 at *
      generalize bAt s (4 * k + 1) = b1 at *
      generalize bAt s (4 * k + 2) = b2 at *
      generalize bAt s (4 * k + 3) = b3 at *
      obtain ⟨V, hV, hx, g0, g1, g2, g3⟩ : ∃ V : ByteArray, U.extract (4 * k) (4 * k + 4) = V ∧ ∃ hx : V.size = 4, V[0].toNat = b0 ∧ V[1].toNat = b1 ∧ V[2].toNat = b2 ∧ V[3].toNat = b3 := ⟨_, rfl, hx, g0, g1, g2, g3⟩
      have HVX := Lib.hid hV
      clear hV
      go_upto_region 5 with (fail)
      rw [HVX.out]
      have z1 : 1 < V.size := by omega
      have z2 : 2 < V.size := by omega
      have z3 : 3 < V.size := by omega
      have z0 : 0 < V.size := by omega
      obtain ⟨p0, p1, p2, p3, p4, s0, s1, s2, o1, o2, o3⟩ := word_is b0 b1 b2 b3 a0 a1 a2 a3
      rw [← HV] at o3
      have u0 : IntKind.u32.wrap (b0 : Int) = (b0 : Int) := by rw [IntKind.wrap_u32]; omega
      have u1 : IntKind.u32.wrap (b1 : Int) = (b1 : Int) := by rw [IntKind.wrap_u32]; omega
      have u2 : IntKind.u32.wrap (b2 : Int) = (b2 : Int) := by rw [IntKind.wrap_u32]; omega
      have u3 : IntKind.u32.wrap (b3 : Int) = (b3 : Int) := by rw [IntKind.wrap_u32]; omega
      clear HV a0 a1 a2 a3
      generalize (wsAt s 0).getD k 0 = wd at *
      obtain ⟨hn, hfn⟩ := arr32_at HR.out.d (i := k) (by omega)
      have e0 : (0 : Int) ≤ (k : Int) := by omega
      have e1 : (k : Int) < 32 := by omega
      have e2 : (k : Int).toNat = k := rfl
      clear f1
      --@2
      go_still_tail 20, (by kernel_rfl)
      change wpList _ _ _ _ _ wr.drew
      have HR2 := Lib.hid HR.out.drew
      clear hn hfn HR
      generalize wr.drew = wr2 at *
      obtain ⟨hn, hfn⟩ := arr32_at HR2.out.d (i := k) (by have := (HFN.out k hlt).1; omega)
      have HFI := Lib.hid (HR2.out.set hds k wd)
      rw [HF2.out] at HFI
      go_wp2_with fail
      --@4
      go_roundw
      case rel => exact ⟨k + 1, by omega, by go_num, HFI.out⟩
      case measure => simp [intOf]; omega
    · as_aux_lemma =>
      have hkd : decide ((k : Int) < 16) = false := decide_eq_false (by omega)
      have hkp : ¬ (k : Int) < 16 := by omega
      rw [show F k = Z by rw [show k = 16 by omega, HF16.out]] at HR
      have hll := HLL.out
      have HFI : Hid (RD w D 55 Z (wr.setRow D (arr32 Z))) := Lib.hid (HR.out.row hds Z)
      --@3
      go_wp2_with (first | (refine wpList_load_row rfl 55 (.tmp 2) rfl D (by rfl) 55 (arr32 Z) (0, 0) _ HR.out.d Tryd.underlying55 rfl (by rw [info32w, arr32_size, hll]) ?_) | (refine wpList_store_row rfl 55 (.tmp 2) (.tmp 36) rfl D (arr32 Z) (by rfl) (by rfl) 55 (arr32 Z) HR.out.d (by rw [info32w, arr32_size, hll]) rfl (arr32_all Z) ?_) | fail)
      --@5
      refine bodyPost_ret (v := .agg (arr32 Z)) (results_cell_row rfl _ _ D 55 (arr32 Z) (0, 0) _ rfl HFI.out.d Tryd.underlying55 rfl (by rw [info32w, arr32_size, hll])) rfl ⟨rfl, HFI.out.below⟩
end Go.Proofs.YtoabeohfbikpcaaDoor.Sh
