/-
  The walk of the statement GreedyParses: for every text, window and cut it returns true, and writes nothing that was there.
-/
import Derived.Test.YthdjnbhdgacmgaaGreedyLaws
import Derived.Test.YthdjnbhdgacmgaaGreedyRef
namespace Go.Proofs.Ythdjnbhdgacmgaa.Gr
open Go.RowKit
open Mt
open Pk (Rp Pt IsPts repL rrep eq_pt)
set_option maxRecDepth 100000 in
set_option maxHeartbeats 4000000 in
theorem gparses_walk (t : ByteArray) (window cut : Int) (w : World) (ht : t.size ≤ maxLen) (hw0 : -9223372036854775808 ≤ window) (hw1 : window ≤ 9223372036854775807) (hc1 : cut ≤ 9223372036854775807) :
    Calls Try.prog 5 #[.string t, .int .i64 window, .int .i64 cut] w fun x w' => x = .returned (.bool true) ∧ Below w.heap.size w w' := by
  unfold maxLen at ht
  go_enter Try.func5, Try.ntmps5
  go_wp2_with fail
  refine (speaks13 w).mono ?_
  rintro x w1 ⟨rfl, hb1⟩
  have HB1 := Lib.hid hb1
  clear hb1
  go_upto_region 4 with (fail)
  have hus : (t.extract 0 (if (200 : Int) < (t.size : Int) then (200 : Int) else (t.size : Int)).toNat).size ≤ 200 := by
    split <;> simp <;> omega
  generalize (if (200 : Int) < (t.size : Int) then (200 : Int) else (t.size : Int)) = mn at *
  generalize t.extract 0 mn.toNat = s at *
  have HG := Lib.hid (greedy_any s window cut w1 (by omega) hw0 hw1 hc1)
  have HR := Lib.hid (fun W => rparse_any s window cut W (by omega))
  obtain ⟨hf1, hf2, hf3⟩ := told_facts (best_ok s window cut) (show s.size ≤ 1048576 by omega)
  rw [← hf1] at HR
  have hll : (told s (best s window cut)).length ≤ 200 := by rw [hf2]; have := parse_length s (best s window cut) 0; omega
  clear hf1 hf2 hf3
  generalize told s (best s window cut) = qs at *
  go_wp2_with fail
  refine HG.out.mono ?_
  rintro x w2 ⟨Z, rfl, hb2, hI2⟩
  have HB2 := Lib.hid (HB1.out.trans (hb2.mono HB1.out.size))
  have HI2 := Lib.hid hI2
  clear hb2 hI2 HG HB1
  go_wp2_with fail
  refine (HR.out w2).mono ?_
  rintro x w3 ⟨ad, cd, rfl, hb3, hI3⟩
  have HB3 := Lib.hid (HB2.out.trans (hb3.mono HB2.out.size))
  have HI3 := Lib.hid (HI2.out.below hb3)
  have HD3 := Lib.hid hI3
  clear hb3 hI3 HR HB2 HI2
  go_wp2_with fail
  go_loopw [9] (fun i wr => ∃ k n : Nat, k ≤ qs.length ∧ i = .int .i64 k ∧ wr = w3.drewN n) (fun i _ => qs.length - (intOf i).toNat)
  case atStart => exact ⟨0, 0, by omega, rfl, rfl⟩
  case round =>
    obtain ⟨k, n, hk, rfl, rfl⟩ := hrel
    by_cases hlt : k < qs.length
    · rcases HI3.out with h0 | ⟨bz, oz, hz, hc⟩
      · rw [h0] at hlt; simp at hlt
      · rcases HD3.out with h0 | ⟨bd, od, rfl, hd⟩
        · rw [h0] at hlt; simp at hlt
        · simp only [Option.some.injEq, Addr.mk.injEq, and_true] at hz
          obtain ⟨rfl, rfl⟩ := hz
          obtain ⟨p0, p1, p2, p3, _⟩ := hc k hlt
          obtain ⟨q0, q1, q2, q3, _⟩ := hd k hlt
          rw [Nat.zero_add] at p0 p1 p2 p3
          have hq := eq_pt qs[k]
          clear hc hd
          generalize qs[k] = p at *
          go_wp2
          go_quiet (fail)
          clear hq
          go_wp2
          go_roundw
          case rel => exact ⟨k + 1, _, by omega, by go_num, rfl⟩
          case measure => simp [intOf]; omega
    · obtain ⟨k', hk'⟩ : ∃ k' : Nat, k' = k := ⟨k, rfl⟩
      obtain rfl : k = qs.length := by omega
      clear hk'
      have HB4 := Lib.hid (HB3.out.trans ((below_drewN (Below.refl w3.heap.size w3) n).mono HB3.out.size))
      clear HB3
      go_wp2_with fail
      go_ret
      exact ⟨rfl, HB4.out⟩
end Go.Proofs.Ythdjnbhdgacmgaa.Gr
