/-
  The walk of the statement BstFinds: for every text and window it returns true, and writes nothing that was there.
-/
import Derived.Test.YtakbocaemlgbaaaBstSpeaks
namespace Go.Proofs.Ytakbocaemlgbaaa.Bs
open Go.RowKit Go.Maps
open Mt
open Ch (bt bt_at bt_lt Dm ret_num Founds eq_fd ret_bool)
set_option maxRecDepth 100000 in
set_option maxHeartbeats 4000000 in
theorem bst_finds_walk (t : ByteArray) (window : Int) (w : World) (ht : t.size ≤ maxLen) (hw0 : -9223372036854775808 ≤ window) (hw1 : window ≤ 9223372036854775807) :
    Calls Try.prog 3 #[.string t, .int .i64 window] w fun x w' => x = .returned (.bool true) ∧ Below w.heap.size w w' := by
  unfold maxLen at ht
  go_enter Try.func3, Try.ntmps3
  go_wp2_with fail
  refine (speaks8 w).mono ?_
  rintro x w1 ⟨rfl, hb1⟩
  have HB1 := Lib.hid hb1
  clear hb1
  go_upto_region 4 with (fail)
  have hus : (t.extract 0 (if (160 : Int) < (t.size : Int) then (160 : Int) else (t.size : Int)).toNat).size ≤ 160 := by
    split <;> simp <;> omega
  generalize (if (160 : Int) < (t.size : Int) then (160 : Int) else (t.size : Int)) = mn at *
  generalize t.extract 0 mn.toNat = s at *
  have HN := Lib.hid (new_ok HB1.out s window (by omega))
  go_wp2_with fail
  refine HN.out.mono ?_
  rintro x w2 ⟨c, a, B, v, rfl, hF, _⟩
  have HF := Lib.hid hF
  clear hF HN HB1
  go_wp2_with fail
  go_loopw [6] (fun i wr => ∃ k : Nat, k ≤ s.size ∧ i = .int .i64 k ∧ BinOk w c a s window k B v wr) (fun i _ => s.size - (intOf i).toNat)
  case atStart => exact ⟨0, by omega, rfl, HF.out⟩
  case round =>
    clear HF
    obtain ⟨k, hk, rfl, hF⟩ := hrel
    obtain ⟨wo, rfl⟩ : ∃ wo : World, wo = wr := ⟨_, rfl⟩
    have HNX := Lib.hid (next_ok hF hw0 hw1)
    clear hF
    by_cases hlt : k < s.size
    · have HMN := Lib.hid (show min (k + 1) s.size = k + 1 by omega)
      have HAT := Lib.hid (fun W => all_any s k window (by omega) (by omega) W)
      as_aux_lemma =>
      -- BEGIN round
      go_wp2_with fail
      refine HNX.out.mono ?_
      rintro x w3 ⟨v9, rfl, hfo, hF3⟩
      rw [HMN.out] at hF3
      have HF3 := Lib.hid hF3
      have HFO := Lib.hid hfo
      clear hfo hF3 HNX
      generalize bstL s window k = l at *
      go_wp2_with fail
      refine (HAT.out _).mono ?_
      rintro x w4 ⟨v10, rfl, hfr, hb4⟩
      have HF4 := Lib.hid (HF3.out.news hb4)
      have HFO4 := Lib.hid (HFO.out.below hb4)
      have HFR := Lib.hid hfr
      clear hb4 hfr HFO HF3 HAT
      obtain ⟨A9, c9, rfl⟩ := HFO4.out.slice
      obtain ⟨A10, c10, rfl⟩ := HFR.out.slice
      have HP := Lib.hid HF4.out.bplace
      have hll := HFO4.out.small
      go_wp2_with fail
      refine HP.out.mono ?_
      rintro x w5 ⟨rfl, rfl⟩
      go_wp2_with fail
      go_loopw [9] (fun i wr => ∃ j n : Nat, j ≤ l.length ∧ i = .int .i64 j ∧ wr = w4.drewN n) (fun i _ => l.length - (intOf i).toNat)
      case atStart => exact ⟨0, 0, by omega, rfl, rfl⟩
      case round =>
        obtain ⟨j, n, hj, rfl, rfl⟩ := hrel
        by_cases hjl : j < l.length
        · obtain ⟨g9, rfl, hc9⟩ := HFO4.out.cells (by omega)
          obtain ⟨g10, rfl, hc10⟩ := HFR.out.cells (by omega)
          obtain ⟨a0, a1⟩ := hc9 j hjl
          obtain ⟨d0, d1⟩ := hc10 j hjl
          have hq := eq_fd (l[j].1 : Int) (l[j].2 : Int)
          clear hc9 hc10
          generalize l[j] = y at *
          go_wp2_with fail
          go_quiet (fail)
          clear hq
          go_wp2_with fail
          go_roundw
          case rel => exact ⟨j + 1, _, by omega, by go_num, rfl⟩
          case measure => simp [intOf]; omega
        · obtain ⟨j', hj'⟩ : ∃ j' : Nat, j' = j := ⟨j, rfl⟩
          obtain rfl : j = l.length := by omega
          have HF5 := Lib.hid (HF4.out.news (below_drewN (Below.refl _ _) n))
          go_wp2_with fail
          go_roundw
          case rel => exact ⟨k + 1, by omega, by go_num, HF5.out⟩
          case measure => simp [intOf]; omega
      -- END round
    · obtain rfl : k = s.size := by omega
      have HFN := Lib.hid (bstL_none (window := window) (show ¬ s.size + 2 ≤ s.size by omega))
      have HMN := Lib.hid (show min (s.size + 1) s.size = s.size by omega)
      as_aux_lemma =>
      -- BEGIN stop
      go_wp2_with fail
      refine HNX.out.mono ?_
      rintro x w3 ⟨v9, rfl, hfo, hF3⟩
      rw [HMN.out] at hF3
      rw [HFN.out] at hfo
      obtain ⟨A9, c9, rfl⟩ := hfo.slice
      have HP := Lib.hid hF3.bplace
      have HB := Lib.hid hF3.below
      clear hfo hF3 HNX
      go_wp2_with fail
      refine HP.out.mono ?_
      rintro x w5 ⟨rfl, rfl⟩
      go_wp2_with fail
      refine (nil_next _).mono ?_
      rintro x w5 ⟨rfl, rfl⟩
      go_wp2_with fail
      refine (bst_nil_place _).mono ?_
      rintro x w5 ⟨rfl, rfl⟩
      go_wp2_with fail
      go_ret
      exact ⟨rfl, HB.out⟩
      -- END stop
end Go.Proofs.Ytakbocaemlgbaaa.Bs
