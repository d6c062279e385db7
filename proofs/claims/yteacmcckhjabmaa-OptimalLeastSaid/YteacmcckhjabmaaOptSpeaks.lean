/-
  Layer 16's statements: their first lines return true.
-/
import Derived.Test.YteacmcckhjabmaaOptPlain
import Derived.Test.YteacmcckhjabmaaPriceSpeaks
import Derived.Test.YteacmcckhjabmaaGreedyDev
import Derived.Laws.StructEq
set_option linter.unusedVariables false
set_option linter.unusedSimpArgs false
namespace Go.Proofs.Yteacmcckhjabmaa.Om
open Go.RowKit
open Pc (Tb common common_good common_any)
open Pk (Pt IsPts repL)
open Gr (again_any Told)
def aaaa : ByteArray := ⟨#[97, 97, 97, 97]⟩
def ab : ByteArray := ⟨#[97, 98]⟩
theorem aaaa_size : aaaa.size = 4 := rfl
theorem ab_size : ab.size = 2 := rfl
theorem plain_aaaa : plainL common aaaa (min 9 1048576) = [⟨1, 0, 0, 97⟩, ⟨2, 1, 3, 0⟩] := by kernel_rfl
theorem plain_ab : plainL common ab (min 9 1048576) = [⟨1, 0, 0, 97⟩, ⟨1, 0, 0, 98⟩] := by kernel_rfl
theorem rep_ab : repL [⟨1, 0, 0, 97⟩, ⟨1, 0, 0, 98⟩] 0 ⟨1, 1, 1, 1⟩ ⟨1, 1, 1, 1⟩ = [⟨1, 0, 0, 97⟩, ⟨1, 0, 0, 98⟩] := by kernel_rfl
theorem eq_pkt (k d n : Int) (b : Nat) (w : World) : (Op.equalIn 10000 32 (.agg #[.int .i64 k, .int .i64 d, .int .i64 n, .int .u8 (b : Int)]) (.agg #[.int .i64 k, .int .i64 d, .int .i64 n, .int .u8 (b : Int)])).run Try.prog w = .ok true w := by
  rw [run_equalIn_struct (P := Try.prog) w 9999 32 _ _ (by kernel_rfl) (by kernel_rfl)]
  simp [go_sem, Try.underlying32, Try.underlying3, Try.underlying5]
/-- Parse of two bytes: two packets. -/
theorem parse_ab (w : World) : Calls Try.prog 15 #[.string ab, .int .i64 9, .agg #[.int .i64 34, .int .i64 20, .int .i64 16, .int .i64 36, .int .i64 5]] w fun x w' => ∃ Z, x = .returned (.slice (some ⟨Z, 0, none⟩) 2 2) ∧ Below w.heap.size w w' := by
  have HP := Lib.hid (fun (W : World) => show Calls Try.prog 7 #[.string ab, .int .i64 9, .agg #[.int .i64 34, .int .i64 20, .int .i64 16, .int .i64 36, .int .i64 5]] W (TellsL W [⟨1, 0, 0, 97⟩, ⟨1, 0, 0, 98⟩]) from by
    have := plain_any ab (by rw [ab_size]; omega) 9 (by omega) (by omega) common common_good W
    rw [plain_ab] at this
    exact this)
  have hb1 : Below w.heap.size w (w.alloc (.cells #[.int .i64 34, .int .i64 20, .int .i64 16, .int .i64 36, .int .i64 5] 25)) := (Below.refl _ _).alloc (Nat.le_refl _) _
  obtain ⟨x0, x1, x2, x3, x4⟩ := five_of (heap_alloc_new w (.cells #[.int .i64 34, .int .i64 20, .int .i64 16, .int .i64 36, .int .i64 5] 25))
  have HB1 := Lib.hid hb1
  clear hb1
  go_enter Try.func15, Try.ntmps15
  go_upto_region 1 with (fail)
  generalize w.alloc (.cells #[.int .i64 34, .int .i64 20, .int .i64 16, .int .i64 36, .int .i64 5] 25) = w1 at *
  go_wp2_with fail
  refine (HP.out w1).mono ?_
  rintro x w2 ⟨A, cap, rfl, hb2, hI2⟩
  have HB2 := Lib.hid (HB1.out.trans (hb2.mono HB1.out.size))
  have HAG := Lib.hid (again_any (cap := cap) HB2.out hI2 (by simp) (by rw [rep_ab]; simp) (by rw [rep_ab]))
  rw [rep_ab] at HAG
  clear hb2 hI2 HP x0 x1 x2 x3 x4
  go_wp2_with fail
  refine HAG.out.mono ?_
  rintro x w3 ⟨Z, rfl, hb3, _⟩
  have HB3 := Lib.hid hb3
  clear hb3 HAG
  go_wp2_with fail
  go_ret
  exact ⟨Z, rfl, HB3.out⟩
set_option maxRecDepth 100000 in
set_option maxHeartbeats 2000000 in
theorem speaks16 (w : World) : Calls Try.prog 5 #[] w fun x w' => x = .returned (.bool true) ∧ Below w.heap.size w w' := by
  have HP := Lib.hid (fun (W : World) => show Calls Try.prog 7 #[.string aaaa, .int .i64 9, .agg #[.int .i64 34, .int .i64 20, .int .i64 16, .int .i64 36, .int .i64 5]] W (TellsL W [⟨1, 0, 0, 97⟩, ⟨2, 1, 3, 0⟩]) from by
    have := plain_any aaaa (by rw [aaaa_size]; omega) 9 (by omega) (by omega) common common_good W
    rw [plain_aaaa] at this
    exact this)
  have HC := Lib.hid common_any
  have HPA := Lib.hid parse_ab
  have hq := eq_pkt 2 1 3 0
  go_enter Try.func5, Try.ntmps5
  go_wp2_with fail
  refine (HC.out w).mono ?_
  rintro x w1 ⟨rfl, hb1⟩
  have HB1 := Lib.hid hb1
  clear hb1
  go_wp2_with fail
  refine (show Calls Try.prog 7 #[.string ⟨#[97, 97, 97, 97]⟩, .int .i64 9, .agg #[.int .i64 34, .int .i64 20, .int .i64 16, .int .i64 36, .int .i64 5]] w1 _ from HP.out w1).mono ?_
  rintro x w2 ⟨A, cap, rfl, hb2, hI⟩
  have HB2 := Lib.hid (HB1.out.trans (hb2.mono HB1.out.size))
  rcases hI with h | ⟨z, o, rfl, hI⟩
  · simp at h
  · obtain ⟨a0, a1, a2, a3, _⟩ := hI 0 (by decide)
    obtain ⟨b0, b1, b2, b3, _⟩ := hI 1 (by decide)
    simp at a0 a1 a2 a3 b0 b1 b2 b3
    clear hI hb2 HP
    go_wp2_with fail
    refine (HC.out w2).mono ?_
    rintro x w3 ⟨rfl, hb3⟩
    have HB3 := Lib.hid (HB2.out.trans (hb3.mono HB2.out.size))
    clear hb3 a0 a1 a2 a3 b0 b1 b2 b3 hq
    go_wp2_with fail
    refine (show Calls Try.prog 15 #[.string ⟨#[97, 98]⟩, .int .i64 9, .agg #[.int .i64 34, .int .i64 20, .int .i64 16, .int .i64 36, .int .i64 5]] w3 _ from HPA.out w3).mono ?_
    rintro x w4 ⟨Z, rfl, hb4⟩
    have HB4 := Lib.hid (HB3.out.trans (hb4.mono HB3.out.size))
    clear hb4
    go_wp2_with fail
    go_ret
    exact ⟨rfl, HB4.out⟩
end Go.Proofs.Yteacmcckhjabmaa.Om
