/-
  Package packet: Fits, of reps of the first two places.
-/
import Derived.Test.YtfpoabeihpfeiaaGreatPk04
import Derived.Deep.RegionWith
import Derived.Deep.RegionHeld3
set_option maxRecDepth 100000
set_option maxHeartbeats 16000000
set_option linter.unusedVariables false
set_option linter.unusedSimpArgs false
open Go.Lib (hid)
namespace Go.Proofs.YtfpoabeihpfeiaaGreat.Pk
open Go.RowKit
theorem fits_rep_out (d n : Int) (b : Nat) (hv r0 r1 r2 r3 : Int) (w : World) (hpl : (⟨3, d, n, b⟩ : Pt).plain = true) (c1 : ¬ (0 <= d /\ d < 4)) :
  Calls Tryz.prog 25 #[.agg #[.int .i64 3, .int .i64 d, .int .i64 n, .int .u8 b], .int .i64 hv, .agg #[.int .i64 r0, .int .i64 r1, .int .i64 r2, .int .i64 r3]] w fun x w' => x = .returned (.tuple #[.int .i64 0, .int .i64 0, .agg #[.int .i64 r0, .int .i64 r1, .int .i64 r2, .int .i64 r3], .bool false]) /\ Below w.heap.size w w' := by
 have HPL := hid (fun W => plain_any ⟨3, d, n, b⟩ W)
 rw [hpl] at HPL
 clear hpl
 go_enter Tryz.func25, Tryz.ntmps25
 go_wp2_with fail
 obtain ⟨q0, q1, q2, hb, hl⟩ := three_alloc w (.cells #[.int .i64 3, .int .i64 d, .int .i64 n, .int .u8 b] 37) (.cells #[.int .i64 r0, .int .i64 r1, .int .i64 r2, .int .i64 r3] 70) (.cells #[.int .i64 0, .int .i64 0, .int .i64 0, .int .i64 0] 70)
 generalize ((w.alloc (.cells #[.int .i64 3, .int .i64 d, .int .i64 n, .int .u8 b] 37)).alloc (.cells #[.int .i64 r0, .int .i64 r1, .int .i64 r2, .int .i64 r3] 70)).alloc (.cells #[.int .i64 0, .int .i64 0, .int .i64 0, .int .i64 0] 70) = W at *
 have HM0 := hid (show Mem w W w.heap.size ⟨3, d, n, b⟩ ⟨r0, r1, r2, r3⟩ from ⟨hb, rfl, q0, q1, q2⟩)
 clear hb q0 q1 q2 hl
 generalize w.heap.size = X at *
 refine (HPL.out _).mono ?_
 rintro x w1 ⟨rfl, hb1⟩
 have HM := hid (HM0.out.next hb1)
 obtain ⟨⟨p0, p1, p2, p3⟩, _, pl⟩ := four HM.out.hp
 obtain ⟨⟨a0, a1, a2, a3⟩, _, al⟩ := four HM.out.hr
 obtain ⟨⟨z0, z1, z2, z3⟩, ⟨f0, f1, f2, f3⟩, zl⟩ := four HM.out.hz
 clear hb1 HM0 HPL
 have HDN := hid (fun s => HM.out.done s)
 have hpl2 : decide (0 <= d /\ d < 4) = false := by rw [decide_eq_false_iff_not]; exact c1
 clear c1
 go_wp2_with (go_at_call 48; refine (place_any d _).mono ?_; rw [hpl2]; rintro x w2 ⟨rfl, rfl⟩)
 all_goals
  go_region
  all_goals
   go_wp2_with fail
   refine bodyPost_ret (v := .tuple #[.int .i64 0, .int .i64 0, .agg #[.int .i64 r0, .int .i64 r1, .int .i64 r2, .int .i64 r3], .bool false]) ?_ rfl ?_
   · simp [results, Tryz.results25, go_sem, z0, z1, z2, z3]
   · exact ⟨rfl, (HDN.out ⟨r0, r1, r2, r3⟩).drew⟩
theorem fits_rep_far0 (n : Int) (b : Nat) (hv r0 r1 r2 r3 : Int) (w : World) (hpl : (⟨3, 0, n, b⟩ : Pt).plain = true) (c1 : ¬ r0 <= hv) :
  Calls Tryz.prog 25 #[.agg #[.int .i64 3, .int .i64 0, .int .i64 n, .int .u8 b], .int .i64 hv, .agg #[.int .i64 r0, .int .i64 r1, .int .i64 r2, .int .i64 r3]] w fun x w' => x = .returned (.tuple #[.int .i64 0, .int .i64 0, .agg #[.int .i64 r0, .int .i64 r1, .int .i64 r2, .int .i64 r3], .bool false]) /\ Below w.heap.size w w' := by
 have HPL := hid (fun W => plain_any ⟨3, 0, n, b⟩ W)
 rw [hpl] at HPL
 clear hpl
 go_enter Tryz.func25, Tryz.ntmps25
 go_wp2_with fail
 obtain ⟨q0, q1, q2, hb, hl⟩ := three_alloc w (.cells #[.int .i64 3, .int .i64 0, .int .i64 n, .int .u8 b] 37) (.cells #[.int .i64 r0, .int .i64 r1, .int .i64 r2, .int .i64 r3] 70) (.cells #[.int .i64 0, .int .i64 0, .int .i64 0, .int .i64 0] 70)
 generalize ((w.alloc (.cells #[.int .i64 3, .int .i64 0, .int .i64 n, .int .u8 b] 37)).alloc (.cells #[.int .i64 r0, .int .i64 r1, .int .i64 r2, .int .i64 r3] 70)).alloc (.cells #[.int .i64 0, .int .i64 0, .int .i64 0, .int .i64 0] 70) = W at *
 have HM0 := hid (show Mem w W w.heap.size ⟨3, 0, n, b⟩ ⟨r0, r1, r2, r3⟩ from ⟨hb, rfl, q0, q1, q2⟩)
 clear hb q0 q1 q2 hl
 generalize w.heap.size = X at *
 refine (HPL.out _).mono ?_
 rintro x w1 ⟨rfl, hb1⟩
 have HM := hid (HM0.out.next hb1)
 obtain ⟨⟨p0, p1, p2, p3⟩, _, pl⟩ := four HM.out.hp
 obtain ⟨⟨a0, a1, a2, a3⟩, _, al⟩ := four HM.out.hr
 obtain ⟨⟨z0, z1, z2, z3⟩, ⟨f0, f1, f2, f3⟩, zl⟩ := four HM.out.hz
 clear hb1 HM0 HPL
 have HDN := hid (fun s => HM.out.done s)
 have hpl2 : decide ((0 : Int) <= 0 /\ (0 : Int) < 4) = true := by decide
 have e1 : decide (r0 <= hv) = false := by simpa using c1
 go_wp2_with (go_at_call 48; refine (place_any 0 _).mono ?_; rw [hpl2]; rintro x w2 ⟨rfl, rfl⟩)
 all_goals
  go_region
  all_goals
   go_wp2_with fail
   refine bodyPost_ret (v := .tuple #[.int .i64 0, .int .i64 0, .agg #[.int .i64 r0, .int .i64 r1, .int .i64 r2, .int .i64 r3], .bool false]) ?_ rfl ?_
   · simp [results, Tryz.results25, go_sem, z0, z1, z2, z3]
   · exact ⟨rfl, (HDN.out ⟨r0, r1, r2, r3⟩).drew⟩
theorem fits_rep_len0 (n : Int) (b : Nat) (hv r0 r1 r2 r3 : Int) (w : World) (hpl : (⟨3, 0, n, b⟩ : Pt).plain = true) (c1 : r0 <= hv) (hlen : lenB n = false) :
  Calls Tryz.prog 25 #[.agg #[.int .i64 3, .int .i64 0, .int .i64 n, .int .u8 b], .int .i64 hv, .agg #[.int .i64 r0, .int .i64 r1, .int .i64 r2, .int .i64 r3]] w fun x w' => x = .returned (.tuple #[.int .i64 0, .int .i64 0, .agg #[.int .i64 r0, .int .i64 r1, .int .i64 r2, .int .i64 r3], .bool false]) /\ Below w.heap.size w w' := by
 have HPL := hid (fun W => plain_any ⟨3, 0, n, b⟩ W)
 rw [hpl] at HPL
 clear hpl
 go_enter Tryz.func25, Tryz.ntmps25
 go_wp2_with fail
 obtain ⟨q0, q1, q2, hb, hl⟩ := three_alloc w (.cells #[.int .i64 3, .int .i64 0, .int .i64 n, .int .u8 b] 37) (.cells #[.int .i64 r0, .int .i64 r1, .int .i64 r2, .int .i64 r3] 70) (.cells #[.int .i64 0, .int .i64 0, .int .i64 0, .int .i64 0] 70)
 generalize ((w.alloc (.cells #[.int .i64 3, .int .i64 0, .int .i64 n, .int .u8 b] 37)).alloc (.cells #[.int .i64 r0, .int .i64 r1, .int .i64 r2, .int .i64 r3] 70)).alloc (.cells #[.int .i64 0, .int .i64 0, .int .i64 0, .int .i64 0] 70) = W at *
 have HM0 := hid (show Mem w W w.heap.size ⟨3, 0, n, b⟩ ⟨r0, r1, r2, r3⟩ from ⟨hb, rfl, q0, q1, q2⟩)
 clear hb q0 q1 q2 hl
 generalize w.heap.size = X at *
 refine (HPL.out _).mono ?_
 rintro x w1 ⟨rfl, hb1⟩
 have HM := hid (HM0.out.next hb1)
 obtain ⟨⟨p0, p1, p2, p3⟩, _, pl⟩ := four HM.out.hp
 obtain ⟨⟨a0, a1, a2, a3⟩, _, al⟩ := four HM.out.hr
 obtain ⟨⟨z0, z1, z2, z3⟩, ⟨f0, f1, f2, f3⟩, zl⟩ := four HM.out.hz
 clear hb1 HM0 HPL
 have HDN := hid (fun s => HM.out.done s)
 have hpl2 : decide ((0 : Int) <= 0 /\ (0 : Int) < 4) = true := by decide
 go_wp2_with (first | (go_at_call 48; refine (place_any 0 _).mono ?_; rw [hpl2]; rintro x w2 ⟨rfl, rfl⟩) | (go_at_call 46; refine (len_any n _).mono ?_; rw [hlen]; rintro x w2 ⟨rfl, rfl⟩))
 all_goals
  go_region
  all_goals
   go_wp2_with fail
   refine bodyPost_ret (v := .tuple #[.int .i64 0, .int .i64 0, .agg #[.int .i64 r0, .int .i64 r1, .int .i64 r2, .int .i64 r3], .bool false]) ?_ rfl ?_
   · simp [results, Tryz.results25, go_sem, z0, z1, z2, z3]
   · exact ⟨rfl, (HDN.out ⟨r0, r1, r2, r3⟩).drew⟩
theorem fits_rep0 (n : Int) (b : Nat) (hv r0 r1 r2 r3 : Int) (w : World) (hpl : (⟨3, 0, n, b⟩ : Pt).plain = true) (c1 : r0 <= hv) (hlen : lenB n = true) :
  Calls Tryz.prog 25 #[.agg #[.int .i64 3, .int .i64 0, .int .i64 n, .int .u8 b], .int .i64 hv, .agg #[.int .i64 r0, .int .i64 r1, .int .i64 r2, .int .i64 r3]] w fun x w' => x = .returned (.tuple #[.int .i64 r0, .int .i64 n, .agg #[.int .i64 r0, .int .i64 r1, .int .i64 r2, .int .i64 r3], .bool true]) /\ Below w.heap.size w w' := by
 have HPL := hid (fun W => plain_any ⟨3, 0, n, b⟩ W)
 rw [hpl] at HPL
 clear hpl
 go_enter Tryz.func25, Tryz.ntmps25
 go_wp2_with fail
 obtain ⟨q0, q1, q2, hb, hl⟩ := three_alloc w (.cells #[.int .i64 3, .int .i64 0, .int .i64 n, .int .u8 b] 37) (.cells #[.int .i64 r0, .int .i64 r1, .int .i64 r2, .int .i64 r3] 70) (.cells #[.int .i64 0, .int .i64 0, .int .i64 0, .int .i64 0] 70)
 generalize ((w.alloc (.cells #[.int .i64 3, .int .i64 0, .int .i64 n, .int .u8 b] 37)).alloc (.cells #[.int .i64 r0, .int .i64 r1, .int .i64 r2, .int .i64 r3] 70)).alloc (.cells #[.int .i64 0, .int .i64 0, .int .i64 0, .int .i64 0] 70) = W at *
 have HM0 := hid (show Mem w W w.heap.size ⟨3, 0, n, b⟩ ⟨r0, r1, r2, r3⟩ from ⟨hb, rfl, q0, q1, q2⟩)
 clear hb q0 q1 q2 hl
 generalize w.heap.size = X at *
 refine (HPL.out _).mono ?_
 rintro x w1 ⟨rfl, hb1⟩
 have HM := hid (HM0.out.next hb1)
 obtain ⟨⟨p0, p1, p2, p3⟩, _, pl⟩ := four HM.out.hp
 obtain ⟨⟨a0, a1, a2, a3⟩, _, al⟩ := four HM.out.hr
 obtain ⟨⟨z0, z1, z2, z3⟩, ⟨f0, f1, f2, f3⟩, zl⟩ := four HM.out.hz
 clear hb1 HM0 HPL
 have HDN := hid (fun s => HM.out.done s)
 have hpl2 : decide ((0 : Int) <= 0 /\ (0 : Int) < 4) = true := by decide
 have HPU := hid (front_0 r0 r1 r2 r3 w1.drew)
 go_wp2_with (first | (go_at_call 48; refine (place_any 0 _).mono ?_; rw [hpl2]; rintro x w2 ⟨rfl, rfl⟩) | (go_at_call 46; refine (len_any n _).mono ?_; rw [hlen]; rintro x w2 ⟨rfl, rfl⟩))
 all_goals
  go_region_held3 (fun W => (W.cell? ⟨X, 1, none⟩ = some (.int .i64 0) /\ W.cell? ⟨X, 2, none⟩ = some (.int .i64 n)) /\ W.cell? ⟨X + 1, 0, none⟩ = some (.int .i64 r0) /\ W.cell? ⟨X + 1, 1, none⟩ = some (.int .i64 r1) /\ W.cell? ⟨X + 1, 2, none⟩ = some (.int .i64 r2) /\ W.cell? ⟨X + 1, 3, none⟩ = some (.int .i64 r3)) (first | exact ⟨⟨p1, p2⟩, a0, a1, a2, a3⟩ | exact ⟨⟨pp1, pp2⟩, aa0, aa1, aa2, aa3⟩ | exact ⟨⟨(set_keep (k := X) (by omega) 1).trans pp1, (set_keep (k := X) (by omega) 2).trans pp2⟩, (set_keep (k := X + 1) (by omega) 0).trans aa0, (set_keep (k := X + 1) (by omega) 1).trans aa1, (set_keep (k := X + 1) (by omega) 2).trans aa2, (set_keep (k := X + 1) (by omega) 3).trans aa3⟩) ((go_at_call 49; (with_reducible refine HPU.out.mono ?_); rintro x w5 ⟨rfl, hb5⟩; have HM5 := hid (HM.out.drew.next hb5); obtain ⟨⟨pp0, pp1, pp2, pp3⟩, _, _⟩ := four HM5.out.hp; obtain ⟨⟨aa0, aa1, aa2, aa3⟩, _, _⟩ := four HM5.out.hr; obtain ⟨⟨zz0, zz1, zz2, zz3⟩, ⟨ff0, ff1, ff2, ff3⟩, zzl⟩ := four HM5.out.hz; clear hb5))
  all_goals
   have HDN5 := hid (fun s => HM5.out.done s)
   go_wp2_with fail
   refine bodyPost_ret (v := .tuple #[.int .i64 r0, .int .i64 n, .agg #[.int .i64 r0, .int .i64 r1, .int .i64 r2, .int .i64 r3], .bool true]) ?_ rfl ?_
   · simp [results, Tryz.results25, go_sem, zz0, zz1, zz2, zz3]
   · exact ⟨rfl, HDN5.out ⟨r0, r1, r2, r3⟩⟩
theorem fits_rep_far1 (n : Int) (b : Nat) (hv r0 r1 r2 r3 : Int) (w : World) (hpl : (⟨3, 1, n, b⟩ : Pt).plain = true) (c1 : ¬ r1 <= hv) :
  Calls Tryz.prog 25 #[.agg #[.int .i64 3, .int .i64 1, .int .i64 n, .int .u8 b], .int .i64 hv, .agg #[.int .i64 r0, .int .i64 r1, .int .i64 r2, .int .i64 r3]] w fun x w' => x = .returned (.tuple #[.int .i64 0, .int .i64 0, .agg #[.int .i64 r0, .int .i64 r1, .int .i64 r2, .int .i64 r3], .bool false]) /\ Below w.heap.size w w' := by
 have HPL := hid (fun W => plain_any ⟨3, 1, n, b⟩ W)
 rw [hpl] at HPL
 clear hpl
 go_enter Tryz.func25, Tryz.ntmps25
 go_wp2_with fail
 obtain ⟨q0, q1, q2, hb, hl⟩ := three_alloc w (.cells #[.int .i64 3, .int .i64 1, .int .i64 n, .int .u8 b] 37) (.cells #[.int .i64 r0, .int .i64 r1, .int .i64 r2, .int .i64 r3] 70) (.cells #[.int .i64 0, .int .i64 0, .int .i64 0, .int .i64 0] 70)
 generalize ((w.alloc (.cells #[.int .i64 3, .int .i64 1, .int .i64 n, .int .u8 b] 37)).alloc (.cells #[.int .i64 r0, .int .i64 r1, .int .i64 r2, .int .i64 r3] 70)).alloc (.cells #[.int .i64 0, .int .i64 0, .int .i64 0, .int .i64 0] 70) = W at *
 have HM0 := hid (show Mem w W w.heap.size ⟨3, 1, n, b⟩ ⟨r0, r1, r2, r3⟩ from ⟨hb, rfl, q0, q1, q2⟩)
 clear hb q0 q1 q2 hl
 generalize w.heap.size = X at *
 refine (HPL.out _).mono ?_
 rintro x w1 ⟨rfl, hb1⟩
 have HM := hid (HM0.out.next hb1)
 obtain ⟨⟨p0, p1, p2, p3⟩, _, pl⟩ := four HM.out.hp
 obtain ⟨⟨a0, a1, a2, a3⟩, _, al⟩ := four HM.out.hr
 obtain ⟨⟨z0, z1, z2, z3⟩, ⟨f0, f1, f2, f3⟩, zl⟩ := four HM.out.hz
 clear hb1 HM0 HPL
 have HDN := hid (fun s => HM.out.done s)
 have hpl2 : decide ((0 : Int) <= 1 /\ (1 : Int) < 4) = true := by decide
 have e1 : decide (r1 <= hv) = false := by simpa using c1
 go_wp2_with (go_at_call 48; refine (place_any 1 _).mono ?_; rw [hpl2]; rintro x w2 ⟨rfl, rfl⟩)
 all_goals
  go_region
  all_goals
   go_wp2_with fail
   refine bodyPost_ret (v := .tuple #[.int .i64 0, .int .i64 0, .agg #[.int .i64 r0, .int .i64 r1, .int .i64 r2, .int .i64 r3], .bool false]) ?_ rfl ?_
   · simp [results, Tryz.results25, go_sem, z0, z1, z2, z3]
   · exact ⟨rfl, (HDN.out ⟨r0, r1, r2, r3⟩).drew⟩
theorem fits_rep_len1 (n : Int) (b : Nat) (hv r0 r1 r2 r3 : Int) (w : World) (hpl : (⟨3, 1, n, b⟩ : Pt).plain = true) (c1 : r1 <= hv) (hlen : lenB n = false) :
  Calls Tryz.prog 25 #[.agg #[.int .i64 3, .int .i64 1, .int .i64 n, .int .u8 b], .int .i64 hv, .agg #[.int .i64 r0, .int .i64 r1, .int .i64 r2, .int .i64 r3]] w fun x w' => x = .returned (.tuple #[.int .i64 0, .int .i64 0, .agg #[.int .i64 r0, .int .i64 r1, .int .i64 r2, .int .i64 r3], .bool false]) /\ Below w.heap.size w w' := by
 have HPL := hid (fun W => plain_any ⟨3, 1, n, b⟩ W)
 rw [hpl] at HPL
 clear hpl
 go_enter Tryz.func25, Tryz.ntmps25
 go_wp2_with fail
 obtain ⟨q0, q1, q2, hb, hl⟩ := three_alloc w (.cells #[.int .i64 3, .int .i64 1, .int .i64 n, .int .u8 b] 37) (.cells #[.int .i64 r0, .int .i64 r1, .int .i64 r2, .int .i64 r3] 70) (.cells #[.int .i64 0, .int .i64 0, .int .i64 0, .int .i64 0] 70)
 generalize ((w.alloc (.cells #[.int .i64 3, .int .i64 1, .int .i64 n, .int .u8 b] 37)).alloc (.cells #[.int .i64 r0, .int .i64 r1, .int .i64 r2, .int .i64 r3] 70)).alloc (.cells #[.int .i64 0, .int .i64 0, .int .i64 0, .int .i64 0] 70) = W at *
 have HM0 := hid (show Mem w W w.heap.size ⟨3, 1, n, b⟩ ⟨r0, r1, r2, r3⟩ from ⟨hb, rfl, q0, q1, q2⟩)
 clear hb q0 q1 q2 hl
 generalize w.heap.size = X at *
 refine (HPL.out _).mono ?_
 rintro x w1 ⟨rfl, hb1⟩
 have HM := hid (HM0.out.next hb1)
 obtain ⟨⟨p0, p1, p2, p3⟩, _, pl⟩ := four HM.out.hp
 obtain ⟨⟨a0, a1, a2, a3⟩, _, al⟩ := four HM.out.hr
 obtain ⟨⟨z0, z1, z2, z3⟩, ⟨f0, f1, f2, f3⟩, zl⟩ := four HM.out.hz
 clear hb1 HM0 HPL
 have HDN := hid (fun s => HM.out.done s)
 have hpl2 : decide ((0 : Int) <= 1 /\ (1 : Int) < 4) = true := by decide
 go_wp2_with (first | (go_at_call 48; refine (place_any 1 _).mono ?_; rw [hpl2]; rintro x w2 ⟨rfl, rfl⟩) | (go_at_call 46; refine (len_any n _).mono ?_; rw [hlen]; rintro x w2 ⟨rfl, rfl⟩))
 all_goals
  go_region
  all_goals
   go_wp2_with fail
   refine bodyPost_ret (v := .tuple #[.int .i64 0, .int .i64 0, .agg #[.int .i64 r0, .int .i64 r1, .int .i64 r2, .int .i64 r3], .bool false]) ?_ rfl ?_
   · simp [results, Tryz.results25, go_sem, z0, z1, z2, z3]
   · exact ⟨rfl, (HDN.out ⟨r0, r1, r2, r3⟩).drew⟩
theorem fits_rep1 (n : Int) (b : Nat) (hv r0 r1 r2 r3 : Int) (w : World) (hpl : (⟨3, 1, n, b⟩ : Pt).plain = true) (c1 : r1 <= hv) (hlen : lenB n = true) :
  Calls Tryz.prog 25 #[.agg #[.int .i64 3, .int .i64 1, .int .i64 n, .int .u8 b], .int .i64 hv, .agg #[.int .i64 r0, .int .i64 r1, .int .i64 r2, .int .i64 r3]] w fun x w' => x = .returned (.tuple #[.int .i64 r1, .int .i64 n, .agg #[.int .i64 r1, .int .i64 r0, .int .i64 r2, .int .i64 r3], .bool true]) /\ Below w.heap.size w w' := by
 have HPL := hid (fun W => plain_any ⟨3, 1, n, b⟩ W)
 rw [hpl] at HPL
 clear hpl
 go_enter Tryz.func25, Tryz.ntmps25
 go_wp2_with fail
 obtain ⟨q0, q1, q2, hb, hl⟩ := three_alloc w (.cells #[.int .i64 3, .int .i64 1, .int .i64 n, .int .u8 b] 37) (.cells #[.int .i64 r0, .int .i64 r1, .int .i64 r2, .int .i64 r3] 70) (.cells #[.int .i64 0, .int .i64 0, .int .i64 0, .int .i64 0] 70)
 generalize ((w.alloc (.cells #[.int .i64 3, .int .i64 1, .int .i64 n, .int .u8 b] 37)).alloc (.cells #[.int .i64 r0, .int .i64 r1, .int .i64 r2, .int .i64 r3] 70)).alloc (.cells #[.int .i64 0, .int .i64 0, .int .i64 0, .int .i64 0] 70) = W at *
 have HM0 := hid (show Mem w W w.heap.size ⟨3, 1, n, b⟩ ⟨r0, r1, r2, r3⟩ from ⟨hb, rfl, q0, q1, q2⟩)
 clear hb q0 q1 q2 hl
 generalize w.heap.size = X at *
 refine (HPL.out _).mono ?_
 rintro x w1 ⟨rfl, hb1⟩
 have HM := hid (HM0.out.next hb1)
 obtain ⟨⟨p0, p1, p2, p3⟩, _, pl⟩ := four HM.out.hp
 obtain ⟨⟨a0, a1, a2, a3⟩, _, al⟩ := four HM.out.hr
 obtain ⟨⟨z0, z1, z2, z3⟩, ⟨f0, f1, f2, f3⟩, zl⟩ := four HM.out.hz
 clear hb1 HM0 HPL
 have HDN := hid (fun s => HM.out.done s)
 have hpl2 : decide ((0 : Int) <= 1 /\ (1 : Int) < 4) = true := by decide
 have HPU := hid (front_1 r0 r1 r2 r3 w1.drew)
 go_wp2_with (first | (go_at_call 48; refine (place_any 1 _).mono ?_; rw [hpl2]; rintro x w2 ⟨rfl, rfl⟩) | (go_at_call 46; refine (len_any n _).mono ?_; rw [hlen]; rintro x w2 ⟨rfl, rfl⟩))
 all_goals
  go_region_held3 (fun W => (W.cell? ⟨X, 1, none⟩ = some (.int .i64 1) /\ W.cell? ⟨X, 2, none⟩ = some (.int .i64 n)) /\ W.cell? ⟨X + 1, 0, none⟩ = some (.int .i64 r0) /\ W.cell? ⟨X + 1, 1, none⟩ = some (.int .i64 r1) /\ W.cell? ⟨X + 1, 2, none⟩ = some (.int .i64 r2) /\ W.cell? ⟨X + 1, 3, none⟩ = some (.int .i64 r3)) (first | exact ⟨⟨p1, p2⟩, a0, a1, a2, a3⟩ | exact ⟨⟨pp1, pp2⟩, aa0, aa1, aa2, aa3⟩ | exact ⟨⟨(set_keep (k := X) (by omega) 1).trans pp1, (set_keep (k := X) (by omega) 2).trans pp2⟩, (set_keep (k := X + 1) (by omega) 0).trans aa0, (set_keep (k := X + 1) (by omega) 1).trans aa1, (set_keep (k := X + 1) (by omega) 2).trans aa2, (set_keep (k := X + 1) (by omega) 3).trans aa3⟩) ((go_at_call 49; (with_reducible refine HPU.out.mono ?_); rintro x w5 ⟨rfl, hb5⟩; have HM5 := hid (HM.out.drew.next hb5); obtain ⟨⟨pp0, pp1, pp2, pp3⟩, _, _⟩ := four HM5.out.hp; obtain ⟨⟨aa0, aa1, aa2, aa3⟩, _, _⟩ := four HM5.out.hr; obtain ⟨⟨zz0, zz1, zz2, zz3⟩, ⟨ff0, ff1, ff2, ff3⟩, zzl⟩ := four HM5.out.hz; clear hb5))
  all_goals
   have HDN5 := hid (fun s => HM5.out.done s)
   go_wp2_with fail
   refine bodyPost_ret (v := .tuple #[.int .i64 r1, .int .i64 n, .agg #[.int .i64 r1, .int .i64 r0, .int .i64 r2, .int .i64 r3], .bool true]) ?_ rfl ?_
   · simp [results, Tryz.results25, go_sem, zz0, zz1, zz2, zz3]
   · exact ⟨rfl, HDN5.out ⟨r1, r0, r2, r3⟩⟩
end Go.Proofs.YtfpoabeihpfeiaaGreat.Pk
