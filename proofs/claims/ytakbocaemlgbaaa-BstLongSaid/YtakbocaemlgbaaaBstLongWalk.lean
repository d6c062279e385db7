/-
  The walk of the statement BstLong: for every round and number it returns true, and writes nothing that was there.
-/
import Derived.Test.YtakbocaemlgbaaaBstSpeaks
import Derived.Test.YtakbocaemlgbaaaBstLongMath
namespace Go.Proofs.Ytakbocaemlgbaaa.Bs
open Go.RowKit Go.Maps
open Mt
open Ch (bt bt_at bt_lt Dm ret_num Founds ret_bool)
set_option maxRecDepth 100000 in
set_option maxHeartbeats 4000000 in
theorem bst_long_walk (t : ByteArray) (n : Nat) (hn : n ≤ 65535) (w : World) (ht : t.size ≤ maxLen) :
    Calls Try.prog 4 #[.string t, .int .u16 (n : Int)] w fun x w' => x = .returned (.bool true) ∧ Below w.heap.size w w' := by
  unfold maxLen at ht
  go_enter Try.func4, Try.ntmps4
  go_wp2_with fail
  refine (speaks8 w).mono ?_
  rintro x w1 ⟨rfl, hb1⟩
  have HB1 := Lib.hid hb1
  clear hb1
  go_upto_region 4 with (fail)
  have hus : (t.extract 0 (if (8 : Int) < (t.size : Int) then (8 : Int) else (t.size : Int)).toNat).size ≤ 8 := by
    split <;> simp <;> omega
  generalize (if (8 : Int) < (t.size : Int) then (8 : Int) else (t.size : Int)) = mn at *
  generalize t.extract 0 mn.toNat = u at *
  by_cases hu0 : u.size = 0
  · have e0 : (u.size : Int) = 0 := by omega
    go_wp2_with fail
    go_ret
    exact ⟨rfl, HB1.out⟩
  · have e0 : ((u.size : Int) == 0) = false := by rw [beq_eq_false_iff_ne]; omega
    obtain ⟨N, hN7, hN⟩ : ∃ N : Nat, N < 700 ∧ (wrap64 (n : Int)).tmod 700 = (N : Int) := ⟨n % 700, by omega, by
      have : wrap64 (n : Int) = (n : Int) := by unfold wrap64; omega
      rw [this, Int.tmod_eq_emod_of_nonneg (by omega)]; omega⟩
    have hup : 0 < u.size := by omega
    have e1 : ¬ (u.size : Int) = 0 := by omega
    clear hn hu0
    go_wp2_with fail
    go_loopw [5, 6] (fun v5 v6 wr => ∃ (k m : Nat) (T : ByteArray), k ≤ N ∧ T.size = k ∧ Round u T ∧ v5 = .string T ∧ v6 = .int .i64 k ∧ wr = w1.drewN m) (fun _ v6 _ => N - (intOf v6).toNat)
    case atStart => exact ⟨0, 0, ByteArray.empty, by omega, rfl, fun j hj => by simp at hj, rfl, rfl, rfl⟩
    case round =>
      obtain ⟨k, m, T, hk, hT, hR, rfl, rfl, rfl⟩ := hrel
      have HR := Lib.hid hR
      have HT := Lib.hid hT
      have hTs : T.size ≤ 700 := by omega
      clear hR hT
      by_cases hlt : k < N
      · obtain ⟨K, hK⟩ : ∃ K, K = k % u.size := ⟨_, rfl⟩
        have hKu : K < u.size := by rw [hK]; exact Nat.mod_lt _ hup
        have hKi : (k : Int) % (u.size : Int) = (K : Int) := by rw [hK]; omega
        have hKt : Int.tmod (k : Int) (u.size : Int) = (K : Int) := by rw [Int.tmod_eq_emod_of_nonneg (by omega)]; exact hKi
        have HG := HR.out.grow hup
        rw [HT.out, ← hK] at HG
        have HG2 := Lib.hid HG
        have HS := Lib.hid (bt_append_one (t := T) hKu).2
        rw [HT.out] at HS
        have f1 : (0 : Int) ≤ (K : Int) := by omega
        have f2 : (K : Int) ≤ (K : Int) + 1 := by omega
        have f3 : (K : Int) + 1 ≤ (u.size : Int) := by omega
        have f4 : ((K : Int) + 1).toNat = K + 1 := by omega
        have f5 : IntKind.i64.wrap ((K : Int) + 1) = (K : Int) + 1 := IntWalk.i64_in _ (by omega)
        clear hK HG
        go_wp2_with fail
        go_quiet (fail)
        go_wp2_with fail
        go_roundw
        case rel => exact ⟨k + 1, _, _, by omega, HS.out, HG2.out, rfl, by go_num, rfl⟩
        case measure => simp [intOf]; omega
      · obtain rfl : k = N := by omega
        have HB2 := Lib.hid (below_drewN HB1.out m)
        clear HB1
        generalize w1.drewN m = W1 at *
        have HN := Lib.hid (new_ok HB2.out T 1048576 (by omega))
        go_wp2_with fail
        refine HN.out.mono ?_
        rintro x w2 ⟨c, a, B, v, rfl, hF, _⟩
        have HF := Lib.hid hF
        clear hF HN HB2
        have hTk := HT.out
        go_wp2_with fail
        go_loopw [8] (fun i wr => ∃ j : Nat, j ≤ T.size ∧ i = .int .i64 j ∧ BinOk w c a T 1048576 j B v wr) (fun i _ => T.size - (intOf i).toNat)
        case atStart => exact ⟨0, by omega, rfl, HF.out⟩
        case round =>
          clear HF
          obtain ⟨j, hj, rfl, hF⟩ := hrel
          have HB := Lib.hid (BinOk.below hF)
          have HNX := Lib.hid (next_ok hF (by omega) (by omega))
          clear hF
          by_cases hjl : j < T.size
          · have HMN := Lib.hid (show min (j + 1) T.size = j + 1 by omega)
            have HLG := Lib.hid (fun (h1 : u.size ≤ j) h2 => long_found HR.out hup h1 h2 hus)
            have HLI := Lib.hid (show lim T j = min (T.size - j) 273 from rfl)
            clear HB
            go_wp2_with fail
            refine HNX.out.mono ?_
            rintro x w3 ⟨v9, rfl, hfo, hF3⟩
            rw [HMN.out] at hF3
            have HF3 := Lib.hid hF3
            have HFO := Lib.hid hfo
            clear hfo hF3 HNX
            generalize bstL T 1048576 j = l at *
            obtain ⟨A9, c9, rfl⟩ := HFO.out.slice
            have hll := HFO.out.small
            go_upto_region 17 with (fail)
            have hmin : (if (273 : Int) < (k : Int) - (j : Int) then (273 : Int) else (k : Int) - (j : Int)) = ((lim T j : Nat) : Int) := by rw [HLI.out, HT.out]; split <;> omega
            rw [hmin]
            clear hmin
            generalize lim T j = most at *
            by_cases hju : j < u.size
            · have z1 : decide (j < u.size) = true := by simpa using hju
              go_wp2_with fail
              go_roundw
              case rel => exact ⟨j + 1, by omega, by go_num, HF3.out⟩
              case measure => simp [intOf]; omega
            · have z1 : decide (j < u.size) = false := by simpa using hju
              by_cases h2 : most < 2
              · have z2 : decide ((most : Int) < 2) = true := by simp; omega
                go_wp2_with fail
                go_roundw
                case rel => exact ⟨j + 1, by omega, by go_num, HF3.out⟩
                case measure => simp [intOf]; omega
              · have z2 : decide ((most : Int) < 2) = false := by simp; omega
                obtain ⟨l', d, e, hd⟩ := HLG.out (by omega) (by omega)
                obtain ⟨g, rfl, hc⟩ := HFO.out.cells (by rw [e]; simp)
                obtain ⟨q, hq⟩ : ∃ q, l'.length = q := ⟨_, rfl⟩
                have hlen : l.length = q + 1 := by rw [e]; simp [hq]
                have hcq := hc q (by omega)
                have hget : l[q]'(by omega) = (most, d) := by subst e; subst hq; simp
                rw [hget] at hcq
                obtain ⟨c0, c1⟩ := hcq
                have HLN := Lib.hid hlen
                rw [hlen] at hll
                rw [hlen]
                clear hc hget hlen hq e HFO HLG HLI
                have z3 : (((q : Int) + 1) == 0) = false := by rw [beq_eq_false_iff_ne]; omega
                have z4 : (0 : Int) ≤ (q : Int) := by omega
                have z5 : (q : Int) < (q : Int) + 1 := by omega
                have z6 : decide (u.size < d) = false := by simpa using hd
                go_wp2_with fail
                go_roundw
                case rel => exact ⟨j + 1, by omega, by go_num, HF3.out⟩
                case measure => simp [intOf]; omega
          · go_wp2_with fail
            go_ret
            exact ⟨rfl, HB.out⟩
end Go.Proofs.Ytakbocaemlgbaaa.Bs
