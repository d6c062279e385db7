/-
  The walk of the statement LazyBack: for every text, window and cut it returns true, and writes nothing that was there.
-/
import Derived.Test.YthdjnbhdgacmgaaGreatLzEnd
import Derived.Test.YthdjnbhdgacmgaaGreatLazyLaws
set_option linter.unusedVariables false
set_option linter.unusedSimpArgs false
namespace Go.Proofs.YthdjnbhdgacmgaaGreat.Gr
open Go.RowKit
open Mt
open Pk (Rp Pt IsPts applyL)
open Lz (back_both three_cells)
set_option maxRecDepth 100000 in
set_option maxHeartbeats 4000000 in
theorem lback_walk (t : ByteArray) (window cut : Int) (w : World) (ht : t.size ≤ maxLen) (hw0 : -9223372036854775808 ≤ window) (hw1 : window ≤ 9223372036854775807) (hc1 : cut ≤ 9223372036854775807) :
    Calls Tryz.prog 7 #[.string t, .int .i64 window, .int .i64 cut] w fun x w' => x = .returned (.bool true) ∧ Below w.heap.size w w' := by
  unfold maxLen at ht
  go_enter Tryz.func7, Tryz.ntmps7
  go_wp2_with fail
  refine (speaks14 w).mono ?_
  rintro x w1 ⟨rfl, hb1⟩
  have HB1 := Lib.hid hb1
  clear hb1
  go_upto_region 4 with (fail)
  have hmm : (if (400 : Int) < (t.size : Int) then (400 : Int) else (t.size : Int)) = min (t.size : Int) 400 := by split <;> omega
  try rw [hmm]
  clear hmm
  have hus : (t.extract 0 (min (t.size : Int) 400).toNat).size ≤ 400 := by simp; omega
  generalize min (t.size : Int) 400 = mn at *
  generalize t.extract 0 mn.toNat = s at *
  have HG := Lib.hid (lazy_any s window cut w1 (by omega) hw0 hw1 hc1)
  obtain ⟨hf1, hf2, hf3⟩ := told_facts (wait_ok s window cut) (show s.size ≤ 1048576 by omega)
  have hap := (parse_rep (wait_ok s window cut) (show s.size ≤ 1048576 by omega)).2 s.size (Nat.le_refl _)
  have hll : (told s (wait s window cut)).length ≤ 400 := by rw [hf2]; have := parse_length s (wait s window cut) 0; omega
  have hAP : applyL s.size (told s (wait s window cut)) [] ⟨1, 1, 1, 1⟩ = (s.data.toList, 0) := hap
  clear hf1 hf2 hap hw0 hw1 hc1
  generalize told s (wait s window cut) = qs at *
  obtain ⟨bs, hE, hD⟩ := back_both 2 1 1 (by omega) (by omega) hf3 hAP (by omega) (by omega)
  have HENC := Lib.hid hE
  have HDEC := Lib.hid hD
  have HAPL := Lib.hid hAP
  clear hAP hE hD hf3
  go_wp2_with fail
  refine HG.out.mono ?_
  rintro x w2 ⟨Z, rfl, hb2, hI2⟩
  have HB2 := Lib.hid (HB1.out.trans (hb2.mono HB1.out.size))
  have HI2 := Lib.hid hI2
  have HAP := Lib.hid (Pk.apply_any HI2.out (by omega) qs.length (s.size : Int) (by omega))
  rw [show ((s.size : Nat) : Int).toNat = s.size from Int.toNat_natCast _, HAPL.out] at HAP
  have HSS : Hid ((⟨s.data.toList.toArray⟩ : ByteArray) = s) := Lib.hid (by cases s; simp)
  rw [HSS.out] at HAP
  clear hb2 hI2 HG HB1 HAPL
  go_wp2_with fail
  refine HAP.out.mono ?_
  rintro x w3 ⟨rfl, hb3⟩
  have HB3 := Lib.hid (HB2.out.trans (hb3.mono HB2.out.size))
  have HI3 := Lib.hid (HI2.out.below hb3)
  clear hb3 HB2 HI2 HAP
  have hb4 : Below w3.heap.size w3 (w3.alloc (.cells #[.int .i64 2, .int .i64 1, .int .i64 1] 26)) := (Below.refl _ _).alloc (Nat.le_refl _) _
  have HB4 := Lib.hid (HB3.out.trans (hb4.mono HB3.out.size))
  have HI4 := Lib.hid (HI3.out.below hb4)
  have hz := heap_alloc_new w3 (.cells #[.int .i64 2, .int .i64 1, .int .i64 1] 26)
  clear hb4 HB3 HI3
  go_upto_region 7 with (fail)
  generalize w3.alloc (.cells #[.int .i64 2, .int .i64 1, .int .i64 1] 26) = w4 at *
  generalize w3.heap.size = P at *
  obtain ⟨p0, p1, p2⟩ := three_cells hz
  have HZ := Lib.hid hz
  have hPl := lt_of_heap hz
  clear hz
  go_wp2_with fail
  refine (HENC.out _ _ _ HI4.out).mono ?_
  rintro x w5 ⟨rfl, hb5⟩
  have HB5 := Lib.hid (HB4.out.trans (hb5.mono HB4.out.size))
  obtain ⟨p0, p1, p2⟩ := three_cells ((hb5.block P hPl).trans HZ.out)
  clear hb5 HENC HB4 HI4 HZ
  go_wp2_with fail
  refine (HDEC.out _).mono ?_
  rintro x w6 ⟨rfl, hb6⟩
  have HB6 := Lib.hid (HB5.out.trans (hb6.mono HB5.out.size))
  have hss : (s.toList == s.toList) = true := by simp
  clear hb6 HDEC HB5 p0 p1 p2
  go_wp2_with fail
  go_ret
  exact ⟨rfl, HB6.out⟩
end Go.Proofs.YthdjnbhdgacmgaaGreat.Gr
