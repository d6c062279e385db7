/-
  Statement KeysRounds: the walk of the law.
-/
import Derived.Test.YtoabeohfbikpcaaDoorKeysDeriveWalk
set_option linter.unusedVariables false
set_option linter.unusedSimpArgs false
namespace Go.Proofs.YtoabeohfbikpcaaDoor.Sh
open Go.RowKit
open Rc
set_option maxRecDepth 100000 in
set_option maxHeartbeats 4000000 in
theorem keysRounds_walk (pw sa : ByteArray) (z : Nat) (hz0 : z < 256) (w : World) (hks : Ks w) (hz : 0 < w.heap.size) (hp : pw.size ≤ maxLen) (hs : sa.size ≤ maxLen) : Calls Tryd.prog 4 #[.string pw, .string sa, .int .u8 (z : Int)] w fun x w' => x = .returned (.bool true) ∧ Below w.heap.size w w' := by
  have HSP := Lib.hid (speaks26 w hks hz)
  have HKS := Lib.hid (fun (V : World) (hb : Below w.heap.size w V) => hks.below hb hz)
  have HZ := Lib.hid (fun (V : World) (hb : Below w.heap.size w V) => Nat.lt_of_lt_of_le hz hb.size)
  clear hks hz
  unfold maxLen at hp hs
  go_enter Tryd.func4, Tryd.ntmps4
  go_wp2_with fail
  refine HSP.out.mono ?_
  rintro x w1 ⟨rfl, hb1⟩
  have HB1 := Lib.hid hb1
  clear hb1 HSP
  --@1
  go_upto_region 3 with (fail)
  go_quiet (fail)
  have HB2 := Lib.hid (below_drawn HB1.out nq)
  clear HB1
  generalize w1.drewN nq = w2 at *
  have hku : (pw.extract 0 (min (pw.size : Int) 20).toNat).size ≤ 20 := by simp; omega
  have hsu : (sa.extract 0 (min (sa.size : Int) 20).toNat).size ≤ 20 := by simp; omega
  generalize min (pw.size : Int) 20 = mk at *
  generalize min (sa.size : Int) 20 = ms at *
  generalize pw.extract 0 mk.toNat = UP at *
  generalize sa.extract 0 ms.toNat = US at *
  obtain ⟨lp, rfl⟩ : ∃ l, UP = tx l := ⟨UP.data.toList, (tx_of UP).symm⟩
  obtain ⟨ls, rfl⟩ : ∃ l, US = tx l := ⟨US.data.toList, (tx_of US).symm⟩
  have hlp : lp.length ≤ 20 := by rw [tx_size] at hku; exact hku
  have hls : ls.length ≤ 20 := by rw [tx_size] at hsu; exact hsu
  clear hku hsu
  --@2
  have HT : Hid ((ls ++ lp).length ≤ 40) := Lib.hid (by rw [List.length_append]; omega)
  have HA := Lib.hid (tx_append ls lp)
  have HDE := Lib.hid (fun (k : Nat) (h1 : k ≤ 6) (V : World) (hb : Below w.heap.size w V) => show Calls Tryd.prog 8 #[.string (tx lp), .string (tx ls), .int .i64 (k : Int)] V fun z w' => z = .returned (.agg #[.string (tx (hmacL (kdf (ls ++ lp) (2 ^ k)) cipherL)), .string (tx (hmacL (kdf (ls ++ lp) (2 ^ k)) sumL'))]) ∧ Below V.heap.size V w' from by
    have := derive_any lp ls (by omega) (by omega) (k : Int) (by omega) (by omega) V (HKS.out V hb) (HZ.out V hb)
    rw [show clipP (k : Int) = k by unfold clipP; omega] at this
    exact this)
  generalize hT : ls ++ lp = T at *
  clear hT
  have s1 : (tx ls).size ≤ 20 := by rw [tx_size]; exact hls
  have s2 : (tx lp).size ≤ 20 := by rw [tx_size]; exact hlp
  have HR0 := Lib.hid (fun (V : World) (hb : Below w.heap.size w V) => show Calls Tryd.prog 10 #[.string (tx T)] V fun z w' => z = .returned (.string (tx (kdf T 0))) ∧ Below V.heap.size V w' from sum_any T (by have := HT.out; omega) V (HKS.out V hb) (HZ.out V hb))
  have HRN := Lib.hid (fun (i : Nat) (hi : i < 256) (V : World) (hb : Below w.heap.size w V) => show Calls Tryd.prog 10 #[.string (tx (kdf T i) ++ tx ls ++ tx lp ++ tx [UInt8.ofNat i, 0, 0, 0, 0, 0, 0, 0])] V fun z w' => z = .returned (.string (tx (kdf T (i + 1)))) ∧ Below V.heap.size V w' from by
    rw [ByteArray.append_assoc (a := tx (kdf T i)), HA.out, tx_append, tx_append, ← le8_small hi]
    exact sum_any (kdf T i ++ T ++ le8 i) (by rw [List.length_append, List.length_append, kdf_length, le8_length]; have := HT.out; omega) V (HKS.out V hb) (HZ.out V hb))
  have HM1 := Lib.hid (fun (i : Nat) (V : World) (hb : Below w.heap.size w V) => show Calls Tryd.prog 11 #[.string (tx (kdf T i)), .string ⟨#[99, 105, 112, 104, 101, 114]⟩] V fun z w' => z = .returned (.string (tx (hmacL (kdf T i) cipherL))) ∧ Below V.heap.size V w' from hsum_any (kdf T i) cipherL (by rw [kdf_length]; omega) (by decide) V (HKS.out V hb) (HZ.out V hb))
  have HM2 := Lib.hid (fun (i : Nat) (V : World) (hb : Below w.heap.size w V) => show Calls Tryd.prog 11 #[.string (tx (kdf T i)), .string ⟨#[115, 117, 109]⟩] V fun z w' => z = .returned (.string (tx (hmacL (kdf T i) sumL'))) ∧ Below V.heap.size V w' from hsum_any (kdf T i) sumL' (by rw [kdf_length]; omega) (by decide) V (HKS.out V hb) (HZ.out V hb))
  have HSI := Lib.hid (fun i => show (tx (kdf T i)).size = 32 by rw [tx_size, kdf_length])
  have HSB := Lib.hid (fun i => show (tx [UInt8.ofNat i, 0, 0, 0, 0, 0, 0, 0]).size = 8 by rw [tx_size]; rfl)
  have hz3 : (tx T).size ≤ 40 := by rw [tx_size]; exact HT.out
  clear hlp hls
  generalize tx ls = A at *
  generalize tx lp = B at *
  generalize hTX : tx T = TX at *
  clear hTX HT
  obtain ⟨q, hq7, hq6⟩ : ∃ q : Nat, Int.tmod (z : Int) 7 = (q : Int) ∧ q ≤ 6 := ⟨z % 7, by rw [Int.tmod_eq_emod_of_nonneg (by omega)]; omega, by omega⟩
  have hq8 : (z : Int) % 7 = (q : Int) := by rw [← hq7, Int.tmod_eq_emod_of_nonneg (by omega)]
  --@3
  go_upto_region 5 with (fail)
  clear hq7 hq8 hz0
  --@4
  go_wp2_with fail
  rw [HA.out]
  refine (HR0.out _ HB2.out).mono ?_
  rintro x w3 ⟨rfl, hb3⟩
  have HB3 := Lib.hid (HB2.out.trans (hb3.mono HB2.out.size))
  clear hb3 HR0 HB2
  --@5
  go_wp2_with fail
  go_loopw [8, 9, 10, 11, 31, 32, 33, 34, 35, 36, 37, 38, 39, 40, 41, 42, 43, 44, 45, 46, 47, 48, 49, 50, 51, 52, 53, 54, 55, 56, 57, 58, 59, 60, 61, 62, 63, 64, 65, 66, 67, 68, 69, 70, 71] (fun h n k _ _ _ _ _ _ _ _ _ _ _ _ _ _ _ _ _ _ _ _ _ _ _ _ _ _ _ _ _ _ _ _ _ _ _ _ _ _ _ _ _ _ wr => ∃ j m : Nat, j ≤ q + 1 ∧ m ≤ 2 ^ j ∧ h = .string (tx (kdf T m)) ∧ n = .int .i64 (m : Int) ∧ k = .int .i64 (j : Int) ∧ Below w.heap.size w wr) (fun _ _ k _ _ _ _ _ _ _ _ _ _ _ _ _ _ _ _ _ _ _ _ _ _ _ _ _ _ _ _ _ _ _ _ _ _ _ _ _ _ _ _ _ _ _ => 8 - (intOf k).toNat)
  case atStart => exact ⟨0, 0, by omega, by omega, rfl, rfl, rfl, HB3.out⟩
  case round =>
    clear HB3
    obtain ⟨j, m, hj, hm, rfl, rfl, rfl, hb⟩ := hrel
    have HB := Lib.hid hb
    clear hb
    by_cases hlt : j ≤ q
    · as_aux_lemma =>
      have h1 : (j : Int) ≤ (q : Int) := by omega
      have h2 : ¬ (q : Int) < (j : Int) := by omega
      have HDJ := Lib.hid (HDE.out j (by omega))
      have hP : 2 ^ j ≤ 2 ^ 6 := Nat.pow_le_pow_right (by decide) (by omega)
      have HPS := Lib.hid (show 2 ^ j ≤ 2 ^ (j + 1) from Nat.pow_le_pow_right (by decide) (by omega))
      have hpw : wrap64 ((2 : Int) ^ j) = ((2 ^ j : Nat) : Int) := by
        rw [show ((2 : Int) ^ j) = ((2 ^ j : Nat) : Int) by simp]
        generalize 2 ^ j = x at *
        unfold wrap64
        omega
      have HY : Hid (2 ^ j ≤ 64) := Lib.hid hP
      have HPW := Lib.hid hpw
      clear hP hpw
      generalize 2 ^ j = y at *
      --@6
      go_upto_region 10 with (fail)
      go_loopw [8, 9, 36, 37, 38, 39, 40, 41, 42, 43, 44, 45, 46, 47, 48, 49, 50, 51, 52, 53, 54, 55] (fun h n _ _ _ _ _ _ _ _ _ _ _ _ _ _ _ _ _ _ _ _ wr => ∃ m : Nat, m ≤ y ∧ h = .string (tx (kdf T m)) ∧ n = .int .i64 (m : Int) ∧ Below w.heap.size w wr) (fun _ n _ _ _ _ _ _ _ _ _ _ _ _ _ _ _ _ _ _ _ _ _ => y - (intOf n).toNat)
      case atStart => exact ⟨m, hm, rfl, rfl, HB.out⟩
      case round =>
        clear HB hm
        rename World => wq
        obtain ⟨m, hm, rfl, rfl, hb⟩ := hrel
        have HB := Lib.hid hb
        clear hb
        have hsi := HSI.out m
        have hpw := HPW.out
        have hy := HY.out
        by_cases hmy : m < y
        · as_aux_lemma =>
          have m1 : (m : Int) < (y : Int) := by clear hpw; omega
          have m2 : m < 256 := by clear hpw; omega
          have HRM := Lib.hid (HRN.out m m2)
          have hsb := HSB.out m
          have m5 : (m : Int) % 256 = (m : Int) := by clear hpw; omega
          have m6 : (m : Int) / 256 = 0 := by clear hpw; omega
          have m7 : (m : Int) / 2 ^ 8 = 0 := by clear hpw; omega
          have hcv := eight_text (W := wq) (b := m) (c := 0) m2 (by decide)
          rw [show UInt8.ofNat 0 = 0 from rfl, show ((0 : Nat) : Int) = 0 from rfl] at hcv
          have HBA := Lib.hid (show Below w.heap.size w (wq.alloc (.cells #[.int .u8 (m : Int), .int .u8 0, .int .u8 0, .int .u8 0, .int .u8 0, .int .u8 0, .int .u8 0, .int .u8 0] 5)) from HB.out.alloc HB.out.size _)
          generalize tx (kdf T m) = H at *
          generalize tx [UInt8.ofNat m, 0, 0, 0, 0, 0, 0, 0] = L at *
          --@7
          go_wp2_with (first | (refine wp_eight rfl _ rfl (m : Int) 0 ?_ ?_) | fail)
          --@8
          clear hcv
          refine (HRM.out _ HBA.out).mono ?_
          rintro x w6 ⟨rfl, hb6⟩
          have HB6 := Lib.hid (HBA.out.trans (hb6.mono HBA.out.size))
          clear hb6
          go_wp2_with fail
          --@9
          clear hpw
          go_roundw
          case rel => exact ⟨m + 1, by omega, rfl, by go_num, HB6.out⟩
          case measure => simp [intOf]; omega
        · as_aux_lemma =>
          have m1 : ¬ (m : Int) < (y : Int) := by clear hpw; omega
          have hkd2 : decide ((m : Int) < (y : Int)) = false := decide_eq_false m1
          have HX1 := Lib.hid (HM1.out y)
          have HX2 := Lib.hid (HM2.out y)
          have HDX := Lib.hid (HDJ.out _ HB.out)
          have HKY := Lib.hid (show tx (kdf T m) = tx (kdf T y) by rw [show m = y by clear hpw; omega])
          rw [HKY.out] at hsi ⊢
          have HMY : Hid (m = y) := Lib.hid (by clear hpw; omega)
          clear HM1 HM2 HRN HSI HSB hmy hm HDJ
          generalize hY1 : tx (hmacL (kdf T y) cipherL) = Y1 at *
          generalize hY2 : tx (hmacL (kdf T y) sumL') = Y2 at *
          generalize tx (kdf T y) = H at *
          clear hY1 hY2
          --@10
          go_wp2_with fail
          refine HDX.out.mono ?_
          rintro x w6 ⟨rfl, hb6⟩
          have HB6 := Lib.hid (HB.out.trans (hb6.mono HB.out.size))
          clear hb6 HDX
          --@11
          go_upto_region 14 with (fail)
          obtain ⟨D, hD⟩ : ∃ D, D = w6.heap.size := ⟨_, rfl⟩
          have HK0 := Lib.hid (show KB w D Y1 Y2 (w6.alloc (.cells #[.string Y1, .string Y2] 29)) from ⟨HB6.out.alloc HB6.out.size _, hD ▸ heap_alloc_new _ _⟩)
          rw [← hD]
          clear hD
          generalize w6.alloc (.cells #[.string Y1, .string Y2] 29) = w7 at *
          --@12
          go_region_held3 (fun W' => KB w D Y1 Y2 W' ∧ W'.cell? ⟨D, 0, none⟩ = some (.string Y1) ∧ W'.cell? ⟨D, 1, none⟩ = some (.string Y2)) (first | assumption | exact HK0.out.pt | exact HK0.out.drew.pt | exact HK1.out.pt | exact HK2.out.pt) (first | (go_at_call 11; (with_reducible refine (HX1.out _ HK0.out.drew.below).mono ?_); rintro z w8 ⟨rfl, hb8⟩; have HK1 := Lib.hid (HK0.out.drew.trans hb8)) | (go_at_call 11; (with_reducible refine (HX2.out _ HK1.out.below).mono ?_); rintro z w9 ⟨rfl, hb9⟩; have HK2 := Lib.hid (HK1.out.trans hb9)))
          all_goals
            --@13
            clear hpw
            go_wp2_with fail
            go_roundw
            case rel => exact ⟨j + 1, m, by omega, by rw [HMY.out]; exact HPS.out, by rw [HKY.out], rfl, by go_num, HK2.out.below⟩
            case measure => simp [intOf]; omega
    · as_aux_lemma =>
      have h1 : ¬ (j : Int) ≤ (q : Int) := by omega
      have h2 : (q : Int) < (j : Int) := by omega
      --@20
      go_wp2_with fail
      go_ret
      exact ⟨rfl, HB.out⟩
end Go.Proofs.YtoabeohfbikpcaaDoor.Sh
