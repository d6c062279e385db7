/-
  The reference of layer 6: contract of Back, case by case (by gen_back.py): some cases.
-/
import Derived.Test.YthdjnbhdgacmgaaPackBack
import Derived.BigRegion
namespace Go.Proofs.Ythdjnbhdgacmgaa.Pk
open Go.RowKit
set_option maxRecDepth 100000 in
set_option maxHeartbeats 4000000 in
theorem back_short0 (d n : Int) (b : Nat) (hv r0 r1 r2 r3 : Int) (w : World) (hb0 : ((b : Int) != 0) = false) (c1 : decide (r0 ≤ hv) = false) :
    Calls Try.prog 35 #[.agg #[.int .i64 4, .int .i64 d, .int .i64 n, .int .u8 (b : Int)], .int .i64 hv, .agg #[.int .i64 r0, .int .i64 r1, .int .i64 r2, .int .i64 r3]] w (BackTo w r0 1 ⟨r0, r1, r2, r3⟩ false) := by
  go_enter Try.func35, Try.ntmps35
  go_upto_region 1 with (fail)
  obtain ⟨q0, q1, q2, hb, hl⟩ := three_alloc w (.cells #[.int .i64 4, .int .i64 d, .int .i64 n, .int .u8 (b : Int)] 51) (.cells #[.int .i64 r0, .int .i64 r1, .int .i64 r2, .int .i64 r3] 68) (.cells #[.int .i64 0, .int .i64 0, .int .i64 0, .int .i64 0] 68)
  generalize ((w.alloc (.cells #[.int .i64 4, .int .i64 d, .int .i64 n, .int .u8 (b : Int)] 51)).alloc (.cells #[.int .i64 r0, .int .i64 r1, .int .i64 r2, .int .i64 r3] 68)).alloc (.cells #[.int .i64 0, .int .i64 0, .int .i64 0, .int .i64 0] 68) = W at *
  have HM := Lib.hid (show MemB w W w.heap.size 4 d n b r0 r1 r2 r3 from ⟨hb, rfl, q0, q1, q2⟩)
  clear hb q0 q1 q2 hl
  generalize w.heap.size = X at *
  obtain ⟨⟨p0, p1, p2, p3⟩, _, pl⟩ := four HM.out.hp
  obtain ⟨⟨a0, a1, a2, a3⟩, _, al⟩ := four HM.out.hr
  obtain ⟨⟨z0, z1, z2, z3⟩, ⟨f0, f1, f2, f3⟩, zl⟩ := four HM.out.hz
  go_upto_region 11 with (fail)
  have HM1 := Lib.hid HM.out.drew
  go_region
  all_goals
    go_wp2_with fail
    exact back_end (Try.results35) rfl rfl rfl rfl rfl (by first | exact HM.out.drew.done ⟨r0, r1, r2, r3⟩ | exact (HM.out.done ⟨r0, r1, r2, r3⟩).drew')
set_option maxRecDepth 100000 in
set_option maxHeartbeats 4000000 in
theorem back_short1 (d n : Int) (b : Nat) (hv r0 r1 r2 r3 : Int) (w : World) (hb0 : ((b : Int) != 0) = false) (c1 : decide (r0 ≤ hv) = true) (c2 : (d == 0) = false) :
    Calls Try.prog 35 #[.agg #[.int .i64 4, .int .i64 d, .int .i64 n, .int .u8 (b : Int)], .int .i64 hv, .agg #[.int .i64 r0, .int .i64 r1, .int .i64 r2, .int .i64 r3]] w (BackTo w r0 1 ⟨r0, r1, r2, r3⟩ false) := by
  go_enter Try.func35, Try.ntmps35
  go_upto_region 1 with (fail)
  obtain ⟨q0, q1, q2, hb, hl⟩ := three_alloc w (.cells #[.int .i64 4, .int .i64 d, .int .i64 n, .int .u8 (b : Int)] 51) (.cells #[.int .i64 r0, .int .i64 r1, .int .i64 r2, .int .i64 r3] 68) (.cells #[.int .i64 0, .int .i64 0, .int .i64 0, .int .i64 0] 68)
  generalize ((w.alloc (.cells #[.int .i64 4, .int .i64 d, .int .i64 n, .int .u8 (b : Int)] 51)).alloc (.cells #[.int .i64 r0, .int .i64 r1, .int .i64 r2, .int .i64 r3] 68)).alloc (.cells #[.int .i64 0, .int .i64 0, .int .i64 0, .int .i64 0] 68) = W at *
  have HM := Lib.hid (show MemB w W w.heap.size 4 d n b r0 r1 r2 r3 from ⟨hb, rfl, q0, q1, q2⟩)
  clear hb q0 q1 q2 hl
  generalize w.heap.size = X at *
  obtain ⟨⟨p0, p1, p2, p3⟩, _, pl⟩ := four HM.out.hp
  obtain ⟨⟨a0, a1, a2, a3⟩, _, al⟩ := four HM.out.hr
  obtain ⟨⟨z0, z1, z2, z3⟩, ⟨f0, f1, f2, f3⟩, zl⟩ := four HM.out.hz
  go_upto_region 11 with (fail)
  have HM1 := Lib.hid HM.out.drew
  go_region
  all_goals
    go_wp2_with fail
    exact back_end (Try.results35) rfl rfl rfl rfl rfl (by first | exact HM.out.drew.done ⟨r0, r1, r2, r3⟩ | exact (HM.out.done ⟨r0, r1, r2, r3⟩).drew')
set_option maxRecDepth 100000 in
set_option maxHeartbeats 4000000 in
theorem back_short2 (d n : Int) (b : Nat) (hv r0 r1 r2 r3 : Int) (w : World) (hb0 : ((b : Int) != 0) = false) (c1 : decide (r0 ≤ hv) = true) (c2 : (d == 0) = true) (c3 : (n == 0) = false) :
    Calls Try.prog 35 #[.agg #[.int .i64 4, .int .i64 d, .int .i64 n, .int .u8 (b : Int)], .int .i64 hv, .agg #[.int .i64 r0, .int .i64 r1, .int .i64 r2, .int .i64 r3]] w (BackTo w r0 1 ⟨r0, r1, r2, r3⟩ false) := by
  go_enter Try.func35, Try.ntmps35
  go_upto_region 1 with (fail)
  obtain ⟨q0, q1, q2, hb, hl⟩ := three_alloc w (.cells #[.int .i64 4, .int .i64 d, .int .i64 n, .int .u8 (b : Int)] 51) (.cells #[.int .i64 r0, .int .i64 r1, .int .i64 r2, .int .i64 r3] 68) (.cells #[.int .i64 0, .int .i64 0, .int .i64 0, .int .i64 0] 68)
  generalize ((w.alloc (.cells #[.int .i64 4, .int .i64 d, .int .i64 n, .int .u8 (b : Int)] 51)).alloc (.cells #[.int .i64 r0, .int .i64 r1, .int .i64 r2, .int .i64 r3] 68)).alloc (.cells #[.int .i64 0, .int .i64 0, .int .i64 0, .int .i64 0] 68) = W at *
  have HM := Lib.hid (show MemB w W w.heap.size 4 d n b r0 r1 r2 r3 from ⟨hb, rfl, q0, q1, q2⟩)
  clear hb q0 q1 q2 hl
  generalize w.heap.size = X at *
  obtain ⟨⟨p0, p1, p2, p3⟩, _, pl⟩ := four HM.out.hp
  obtain ⟨⟨a0, a1, a2, a3⟩, _, al⟩ := four HM.out.hr
  obtain ⟨⟨z0, z1, z2, z3⟩, ⟨f0, f1, f2, f3⟩, zl⟩ := four HM.out.hz
  go_upto_region 11 with (fail)
  have HM1 := Lib.hid HM.out.drew
  go_region
  all_goals
    go_wp2_with fail
    exact back_end (Try.results35) rfl rfl rfl rfl rfl (by first | exact HM.out.drew.done ⟨r0, r1, r2, r3⟩ | exact (HM.out.done ⟨r0, r1, r2, r3⟩).drew')
set_option maxRecDepth 100000 in
set_option maxHeartbeats 4000000 in
theorem back_short3 (d n : Int) (b : Nat) (hv r0 r1 r2 r3 : Int) (w : World) (hb0 : ((b : Int) != 0) = false) (c1 : decide (r0 ≤ hv) = true) (c2 : (d == 0) = true) (c3 : (n == 0) = true) :
    Calls Try.prog 35 #[.agg #[.int .i64 4, .int .i64 d, .int .i64 n, .int .u8 (b : Int)], .int .i64 hv, .agg #[.int .i64 r0, .int .i64 r1, .int .i64 r2, .int .i64 r3]] w (BackTo w r0 1 ⟨r0, r1, r2, r3⟩ true) := by
  go_enter Try.func35, Try.ntmps35
  go_upto_region 1 with (fail)
  obtain ⟨q0, q1, q2, hb, hl⟩ := three_alloc w (.cells #[.int .i64 4, .int .i64 d, .int .i64 n, .int .u8 (b : Int)] 51) (.cells #[.int .i64 r0, .int .i64 r1, .int .i64 r2, .int .i64 r3] 68) (.cells #[.int .i64 0, .int .i64 0, .int .i64 0, .int .i64 0] 68)
  generalize ((w.alloc (.cells #[.int .i64 4, .int .i64 d, .int .i64 n, .int .u8 (b : Int)] 51)).alloc (.cells #[.int .i64 r0, .int .i64 r1, .int .i64 r2, .int .i64 r3] 68)).alloc (.cells #[.int .i64 0, .int .i64 0, .int .i64 0, .int .i64 0] 68) = W at *
  have HM := Lib.hid (show MemB w W w.heap.size 4 d n b r0 r1 r2 r3 from ⟨hb, rfl, q0, q1, q2⟩)
  clear hb q0 q1 q2 hl
  generalize w.heap.size = X at *
  obtain ⟨⟨p0, p1, p2, p3⟩, _, pl⟩ := four HM.out.hp
  obtain ⟨⟨a0, a1, a2, a3⟩, _, al⟩ := four HM.out.hr
  obtain ⟨⟨z0, z1, z2, z3⟩, ⟨f0, f1, f2, f3⟩, zl⟩ := four HM.out.hz
  go_upto_region 11 with (fail)
  have HM1 := Lib.hid HM.out.drew
  go_region
  all_goals
    go_wp2_with fail
    exact back_end (Try.results35) rfl rfl rfl rfl rfl (by first | exact HM.out.drew.done ⟨r0, r1, r2, r3⟩ | exact (HM.out.done ⟨r0, r1, r2, r3⟩).drew')
end Go.Proofs.Ythdjnbhdgacmgaa.Pk
