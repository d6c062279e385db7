/-
  Package packet: Fits, of bytes, matches, short ones, and what is no packet.
-/
import Derived.Test.YtfpoabeihpfeiaaGreatPk04
import Derived.Deep.RegionWith
import Derived.Deep.RegionHeld3
set_option maxRecDepth 100000
set_option maxHeartbeats 16000000
set_option linter.unusedVariables false
set_option linter.unusedSimpArgs false
open Go.Lib (hid)
namespace Go.Proofs.YtfpoabeihpfeiaaGreat.Pk
open Go.RowKit
theorem fits_bad (k d n : Int) (b : Nat) (hv r0 r1 r2 r3 : Int) (w : World) (hpl : (⟨k, d, n, b⟩ : Pt).plain = false)  :
  Calls Tryz.prog 25 #[.agg #[.int .i64 k, .int .i64 d, .int .i64 n, .int .u8 b], .int .i64 hv, .agg #[.int .i64 r0, .int .i64 r1, .int .i64 r2, .int .i64 r3]] w fun x w' => x = .returned (.tuple #[.int .i64 0, .int .i64 0, .agg #[.int .i64 r0, .int .i64 r1, .int .i64 r2, .int .i64 r3], .bool false]) /\ Below w.heap.size w w' := by
 have HPL := hid (fun W => plain_any ⟨k, d, n, b⟩ W)
 rw [hpl] at HPL
 clear hpl
 go_enter Tryz.func25, Tryz.ntmps25
 go_wp2_with fail
 obtain ⟨q0, q1, q2, hb, hl⟩ := three_alloc w (.cells #[.int .i64 k, .int .i64 d, .int .i64 n, .int .u8 b] 37) (.cells #[.int .i64 r0, .int .i64 r1, .int .i64 r2, .int .i64 r3] 70) (.cells #[.int .i64 0, .int .i64 0, .int .i64 0, .int .i64 0] 70)
 generalize ((w.alloc (.cells #[.int .i64 k, .int .i64 d, .int .i64 n, .int .u8 b] 37)).alloc (.cells #[.int .i64 r0, .int .i64 r1, .int .i64 r2, .int .i64 r3] 70)).alloc (.cells #[.int .i64 0, .int .i64 0, .int .i64 0, .int .i64 0] 70) = W at *
 have HM0 := hid (show Mem w W w.heap.size ⟨k, d, n, b⟩ ⟨r0, r1, r2, r3⟩ from ⟨hb, rfl, q0, q1, q2⟩)
 clear hb q0 q1 q2 hl
 generalize w.heap.size = X at *
 refine (HPL.out _).mono ?_
 rintro x w1 ⟨rfl, hb1⟩
 have HM := hid (HM0.out.next hb1)
 obtain ⟨⟨p0, p1, p2, p3⟩, _, pl⟩ := four HM.out.hp
 obtain ⟨⟨a0, a1, a2, a3⟩, _, al⟩ := four HM.out.hr
 obtain ⟨⟨z0, z1, z2, z3⟩, ⟨f0, f1, f2, f3⟩, zl⟩ := four HM.out.hz
 clear hb1 HM0 HPL
 have HDN := hid (fun s => HM.out.done s)
 go_wp2_with fail
 go_region
 all_goals
  go_wp2_with fail
  refine bodyPost_ret (v := .tuple #[.int .i64 0, .int .i64 0, .agg #[.int .i64 r0, .int .i64 r1, .int .i64 r2, .int .i64 r3], .bool false]) ?_ rfl ?_
  · simp [results, Tryz.results25, go_sem, z0, z1, z2, z3]
  · exact ⟨rfl, (HDN.out ⟨r0, r1, r2, r3⟩).drew⟩
theorem fits_lit (d n : Int) (b : Nat) (hv r0 r1 r2 r3 : Int) (w : World) (hpl : (⟨1, d, n, b⟩ : Pt).plain = true)  :
  Calls Tryz.prog 25 #[.agg #[.int .i64 1, .int .i64 d, .int .i64 n, .int .u8 b], .int .i64 hv, .agg #[.int .i64 r0, .int .i64 r1, .int .i64 r2, .int .i64 r3]] w fun x w' => x = .returned (.tuple #[.int .i64 0, .int .i64 1, .agg #[.int .i64 r0, .int .i64 r1, .int .i64 r2, .int .i64 r3], .bool true]) /\ Below w.heap.size w w' := by
 have HPL := hid (fun W => plain_any ⟨1, d, n, b⟩ W)
 rw [hpl] at HPL
 clear hpl
 go_enter Tryz.func25, Tryz.ntmps25
 go_wp2_with fail
 obtain ⟨q0, q1, q2, hb, hl⟩ := three_alloc w (.cells #[.int .i64 1, .int .i64 d, .int .i64 n, .int .u8 b] 37) (.cells #[.int .i64 r0, .int .i64 r1, .int .i64 r2, .int .i64 r3] 70) (.cells #[.int .i64 0, .int .i64 0, .int .i64 0, .int .i64 0] 70)
 generalize ((w.alloc (.cells #[.int .i64 1, .int .i64 d, .int .i64 n, .int .u8 b] 37)).alloc (.cells #[.int .i64 r0, .int .i64 r1, .int .i64 r2, .int .i64 r3] 70)).alloc (.cells #[.int .i64 0, .int .i64 0, .int .i64 0, .int .i64 0] 70) = W at *
 have HM0 := hid (show Mem w W w.heap.size ⟨1, d, n, b⟩ ⟨r0, r1, r2, r3⟩ from ⟨hb, rfl, q0, q1, q2⟩)
 clear hb q0 q1 q2 hl
 generalize w.heap.size = X at *
 refine (HPL.out _).mono ?_
 rintro x w1 ⟨rfl, hb1⟩
 have HM := hid (HM0.out.next hb1)
 obtain ⟨⟨p0, p1, p2, p3⟩, _, pl⟩ := four HM.out.hp
 obtain ⟨⟨a0, a1, a2, a3⟩, _, al⟩ := four HM.out.hr
 obtain ⟨⟨z0, z1, z2, z3⟩, ⟨f0, f1, f2, f3⟩, zl⟩ := four HM.out.hz
 clear hb1 HM0 HPL
 have HDN := hid (fun s => HM.out.done s)
 go_wp2_with fail
 go_region
 all_goals
  go_wp2_with fail
  refine bodyPost_ret (v := .tuple #[.int .i64 0, .int .i64 1, .agg #[.int .i64 r0, .int .i64 r1, .int .i64 r2, .int .i64 r3], .bool true]) ?_ rfl ?_
  · simp [results, Tryz.results25, go_sem, z0, z1, z2, z3]
  · exact ⟨rfl, (HDN.out ⟨r0, r1, r2, r3⟩).drew⟩
theorem fits_match_far1 (d n : Int) (b : Nat) (hv r0 r1 r2 r3 : Int) (w : World) (hpl : (⟨2, d, n, b⟩ : Pt).plain = true) (c1 : ¬ 1 <= d) :
  Calls Tryz.prog 25 #[.agg #[.int .i64 2, .int .i64 d, .int .i64 n, .int .u8 b], .int .i64 hv, .agg #[.int .i64 r0, .int .i64 r1, .int .i64 r2, .int .i64 r3]] w fun x w' => x = .returned (.tuple #[.int .i64 0, .int .i64 0, .agg #[.int .i64 r0, .int .i64 r1, .int .i64 r2, .int .i64 r3], .bool false]) /\ Below w.heap.size w w' := by
 have HPL := hid (fun W => plain_any ⟨2, d, n, b⟩ W)
 rw [hpl] at HPL
 clear hpl
 go_enter Tryz.func25, Tryz.ntmps25
 go_wp2_with fail
 obtain ⟨q0, q1, q2, hb, hl⟩ := three_alloc w (.cells #[.int .i64 2, .int .i64 d, .int .i64 n, .int .u8 b] 37) (.cells #[.int .i64 r0, .int .i64 r1, .int .i64 r2, .int .i64 r3] 70) (.cells #[.int .i64 0, .int .i64 0, .int .i64 0, .int .i64 0] 70)
 generalize ((w.alloc (.cells #[.int .i64 2, .int .i64 d, .int .i64 n, .int .u8 b] 37)).alloc (.cells #[.int .i64 r0, .int .i64 r1, .int .i64 r2, .int .i64 r3] 70)).alloc (.cells #[.int .i64 0, .int .i64 0, .int .i64 0, .int .i64 0] 70) = W at *
 have HM0 := hid (show Mem w W w.heap.size ⟨2, d, n, b⟩ ⟨r0, r1, r2, r3⟩ from ⟨hb, rfl, q0, q1, q2⟩)
 clear hb q0 q1 q2 hl
 generalize w.heap.size = X at *
 refine (HPL.out _).mono ?_
 rintro x w1 ⟨rfl, hb1⟩
 have HM := hid (HM0.out.next hb1)
 obtain ⟨⟨p0, p1, p2, p3⟩, _, pl⟩ := four HM.out.hp
 obtain ⟨⟨a0, a1, a2, a3⟩, _, al⟩ := four HM.out.hr
 obtain ⟨⟨z0, z1, z2, z3⟩, ⟨f0, f1, f2, f3⟩, zl⟩ := four HM.out.hz
 clear hb1 HM0 HPL
 have HDN := hid (fun s => HM.out.done s)
 have e1 : decide (1 <= d) = false := by simpa using c1
 go_wp2_with fail
 all_goals
  go_region
  all_goals
   go_wp2_with fail
   refine bodyPost_ret (v := .tuple #[.int .i64 0, .int .i64 0, .agg #[.int .i64 r0, .int .i64 r1, .int .i64 r2, .int .i64 r3], .bool false]) ?_ rfl ?_
   · simp [results, Tryz.results25, go_sem, z0, z1, z2, z3]
   · exact ⟨rfl, (HDN.out ⟨r0, r1, r2, r3⟩).drew⟩
theorem fits_match_far2 (d n : Int) (b : Nat) (hv r0 r1 r2 r3 : Int) (w : World) (hpl : (⟨2, d, n, b⟩ : Pt).plain = true) (c1 : 1 <= d) (c2 : ¬ d <= min hv 1048576) :
  Calls Tryz.prog 25 #[.agg #[.int .i64 2, .int .i64 d, .int .i64 n, .int .u8 b], .int .i64 hv, .agg #[.int .i64 r0, .int .i64 r1, .int .i64 r2, .int .i64 r3]] w fun x w' => x = .returned (.tuple #[.int .i64 0, .int .i64 0, .agg #[.int .i64 r0, .int .i64 r1, .int .i64 r2, .int .i64 r3], .bool false]) /\ Below w.heap.size w w' := by
 have HPL := hid (fun W => plain_any ⟨2, d, n, b⟩ W)
 rw [hpl] at HPL
 clear hpl
 go_enter Tryz.func25, Tryz.ntmps25
 go_wp2_with fail
 obtain ⟨q0, q1, q2, hb, hl⟩ := three_alloc w (.cells #[.int .i64 2, .int .i64 d, .int .i64 n, .int .u8 b] 37) (.cells #[.int .i64 r0, .int .i64 r1, .int .i64 r2, .int .i64 r3] 70) (.cells #[.int .i64 0, .int .i64 0, .int .i64 0, .int .i64 0] 70)
 generalize ((w.alloc (.cells #[.int .i64 2, .int .i64 d, .int .i64 n, .int .u8 b] 37)).alloc (.cells #[.int .i64 r0, .int .i64 r1, .int .i64 r2, .int .i64 r3] 70)).alloc (.cells #[.int .i64 0, .int .i64 0, .int .i64 0, .int .i64 0] 70) = W at *
 have HM0 := hid (show Mem w W w.heap.size ⟨2, d, n, b⟩ ⟨r0, r1, r2, r3⟩ from ⟨hb, rfl, q0, q1, q2⟩)
 clear hb q0 q1 q2 hl
 generalize w.heap.size = X at *
 refine (HPL.out _).mono ?_
 rintro x w1 ⟨rfl, hb1⟩
 have HM := hid (HM0.out.next hb1)
 obtain ⟨⟨p0, p1, p2, p3⟩, _, pl⟩ := four HM.out.hp
 obtain ⟨⟨a0, a1, a2, a3⟩, _, al⟩ := four HM.out.hr
 obtain ⟨⟨z0, z1, z2, z3⟩, ⟨f0, f1, f2, f3⟩, zl⟩ := four HM.out.hz
 clear hb1 HM0 HPL
 have HDN := hid (fun s => HM.out.done s)
 go_wp2_with fail
 all_goals
  go_region
  all_goals
   go_wp2_with fail
   refine bodyPost_ret (v := .tuple #[.int .i64 0, .int .i64 0, .agg #[.int .i64 r0, .int .i64 r1, .int .i64 r2, .int .i64 r3], .bool false]) ?_ rfl ?_
   · simp [results, Tryz.results25, go_sem, z0, z1, z2, z3]
   · exact ⟨rfl, (HDN.out ⟨r0, r1, r2, r3⟩).drew⟩
theorem fits_match_len (d n : Int) (b : Nat) (hv r0 r1 r2 r3 : Int) (w : World) (hpl : (⟨2, d, n, b⟩ : Pt).plain = true) (c1 : 1 <= d) (e1 : d <= hv) (e2 : d <= 1048576) (hlen : lenB n = false) :
  Calls Tryz.prog 25 #[.agg #[.int .i64 2, .int .i64 d, .int .i64 n, .int .u8 b], .int .i64 hv, .agg #[.int .i64 r0, .int .i64 r1, .int .i64 r2, .int .i64 r3]] w fun x w' => x = .returned (.tuple #[.int .i64 0, .int .i64 0, .agg #[.int .i64 r0, .int .i64 r1, .int .i64 r2, .int .i64 r3], .bool false]) /\ Below w.heap.size w w' := by
 have HPL := hid (fun W => plain_any ⟨2, d, n, b⟩ W)
 rw [hpl] at HPL
 clear hpl
 go_enter Tryz.func25, Tryz.ntmps25
 go_wp2_with fail
 obtain ⟨q0, q1, q2, hb, hl⟩ := three_alloc w (.cells #[.int .i64 2, .int .i64 d, .int .i64 n, .int .u8 b] 37) (.cells #[.int .i64 r0, .int .i64 r1, .int .i64 r2, .int .i64 r3] 70) (.cells #[.int .i64 0, .int .i64 0, .int .i64 0, .int .i64 0] 70)
 generalize ((w.alloc (.cells #[.int .i64 2, .int .i64 d, .int .i64 n, .int .u8 b] 37)).alloc (.cells #[.int .i64 r0, .int .i64 r1, .int .i64 r2, .int .i64 r3] 70)).alloc (.cells #[.int .i64 0, .int .i64 0, .int .i64 0, .int .i64 0] 70) = W at *
 have HM0 := hid (show Mem w W w.heap.size ⟨2, d, n, b⟩ ⟨r0, r1, r2, r3⟩ from ⟨hb, rfl, q0, q1, q2⟩)
 clear hb q0 q1 q2 hl
 generalize w.heap.size = X at *
 refine (HPL.out _).mono ?_
 rintro x w1 ⟨rfl, hb1⟩
 have HM := hid (HM0.out.next hb1)
 obtain ⟨⟨p0, p1, p2, p3⟩, _, pl⟩ := four HM.out.hp
 obtain ⟨⟨a0, a1, a2, a3⟩, _, al⟩ := four HM.out.hr
 obtain ⟨⟨z0, z1, z2, z3⟩, ⟨f0, f1, f2, f3⟩, zl⟩ := four HM.out.hz
 clear hb1 HM0 HPL
 have HDN := hid (fun s => HM.out.done s)
 go_wp2_with (go_at_call 46; refine (len_any n _).mono ?_; rw [hlen]; rintro x w2 ⟨rfl, rfl⟩)
 all_goals
  go_region
  all_goals
   go_wp2_with fail
   refine bodyPost_ret (v := .tuple #[.int .i64 0, .int .i64 0, .agg #[.int .i64 r0, .int .i64 r1, .int .i64 r2, .int .i64 r3], .bool false]) ?_ rfl ?_
   · simp [results, Tryz.results25, go_sem, z0, z1, z2, z3]
   · exact ⟨rfl, (HDN.out ⟨r0, r1, r2, r3⟩).drew⟩
theorem fits_match (d n : Int) (b : Nat) (hv r0 r1 r2 r3 : Int) (w : World) (hpl : (⟨2, d, n, b⟩ : Pt).plain = true) (c1 : 1 <= d) (e1 : d <= hv) (e2 : d <= 1048576) (hlen : lenB n = true) :
  Calls Tryz.prog 25 #[.agg #[.int .i64 2, .int .i64 d, .int .i64 n, .int .u8 b], .int .i64 hv, .agg #[.int .i64 r0, .int .i64 r1, .int .i64 r2, .int .i64 r3]] w fun x w' => x = .returned (.tuple #[.int .i64 d, .int .i64 n, .agg #[.int .i64 d, .int .i64 r0, .int .i64 r1, .int .i64 r2], .bool true]) /\ Below w.heap.size w w' := by
 have HPL := hid (fun W => plain_any ⟨2, d, n, b⟩ W)
 rw [hpl] at HPL
 clear hpl
 go_enter Tryz.func25, Tryz.ntmps25
 go_wp2_with fail
 obtain ⟨q0, q1, q2, hb, hl⟩ := three_alloc w (.cells #[.int .i64 2, .int .i64 d, .int .i64 n, .int .u8 b] 37) (.cells #[.int .i64 r0, .int .i64 r1, .int .i64 r2, .int .i64 r3] 70) (.cells #[.int .i64 0, .int .i64 0, .int .i64 0, .int .i64 0] 70)
 generalize ((w.alloc (.cells #[.int .i64 2, .int .i64 d, .int .i64 n, .int .u8 b] 37)).alloc (.cells #[.int .i64 r0, .int .i64 r1, .int .i64 r2, .int .i64 r3] 70)).alloc (.cells #[.int .i64 0, .int .i64 0, .int .i64 0, .int .i64 0] 70) = W at *
 have HM0 := hid (show Mem w W w.heap.size ⟨2, d, n, b⟩ ⟨r0, r1, r2, r3⟩ from ⟨hb, rfl, q0, q1, q2⟩)
 clear hb q0 q1 q2 hl
 generalize w.heap.size = X at *
 refine (HPL.out _).mono ?_
 rintro x w1 ⟨rfl, hb1⟩
 have HM := hid (HM0.out.next hb1)
 obtain ⟨⟨p0, p1, p2, p3⟩, _, pl⟩ := four HM.out.hp
 obtain ⟨⟨a0, a1, a2, a3⟩, _, al⟩ := four HM.out.hr
 obtain ⟨⟨z0, z1, z2, z3⟩, ⟨f0, f1, f2, f3⟩, zl⟩ := four HM.out.hz
 clear hb1 HM0 HPL
 have HDN := hid (fun s => HM.out.done s)
 have HPU := hid (push_raw r0 r1 r2 r3 d w1.drew)
 go_wp2_with (go_at_call 46; refine (len_any n _).mono ?_; rw [hlen]; rintro x w2 ⟨rfl, rfl⟩)
 all_goals
  go_region_held3 (fun W => (W.cell? ⟨X, 1, none⟩ = some (.int .i64 d) /\ W.cell? ⟨X, 2, none⟩ = some (.int .i64 n)) /\ W.cell? ⟨X + 1, 0, none⟩ = some (.int .i64 r0) /\ W.cell? ⟨X + 1, 1, none⟩ = some (.int .i64 r1) /\ W.cell? ⟨X + 1, 2, none⟩ = some (.int .i64 r2) /\ W.cell? ⟨X + 1, 3, none⟩ = some (.int .i64 r3)) (first | exact ⟨⟨p1, p2⟩, a0, a1, a2, a3⟩ | exact ⟨⟨pp1, pp2⟩, aa0, aa1, aa2, aa3⟩ | exact ⟨⟨(set_keep (k := X) (by omega) 1).trans pp1, (set_keep (k := X) (by omega) 2).trans pp2⟩, (set_keep (k := X + 1) (by omega) 0).trans aa0, (set_keep (k := X + 1) (by omega) 1).trans aa1, (set_keep (k := X + 1) (by omega) 2).trans aa2, (set_keep (k := X + 1) (by omega) 3).trans aa3⟩) ((go_at_call 47; (with_reducible refine HPU.out.mono ?_); rintro x w5 ⟨rfl, hb5⟩; have HM5 := hid (HM.out.drew.next hb5); obtain ⟨⟨pp0, pp1, pp2, pp3⟩, _, _⟩ := four HM5.out.hp; obtain ⟨⟨aa0, aa1, aa2, aa3⟩, _, _⟩ := four HM5.out.hr; obtain ⟨⟨zz0, zz1, zz2, zz3⟩, ⟨ff0, ff1, ff2, ff3⟩, zzl⟩ := four HM5.out.hz; clear hb5))
  all_goals
   have HDN5 := hid (fun s => HM5.out.done s)
   go_wp2_with fail
   refine bodyPost_ret (v := .tuple #[.int .i64 d, .int .i64 n, .agg #[.int .i64 d, .int .i64 r0, .int .i64 r1, .int .i64 r2], .bool true]) ?_ rfl ?_
   · simp [results, Tryz.results25, go_sem, zz0, zz1, zz2, zz3]
   · exact ⟨rfl, HDN5.out ⟨d, r0, r1, r2⟩⟩
theorem fits_short (d n : Int) (b : Nat) (hv r0 r1 r2 r3 : Int) (w : World) (hpl : (⟨4, d, n, b⟩ : Pt).plain = true) (c1 : r0 <= hv) :
  Calls Tryz.prog 25 #[.agg #[.int .i64 4, .int .i64 d, .int .i64 n, .int .u8 b], .int .i64 hv, .agg #[.int .i64 r0, .int .i64 r1, .int .i64 r2, .int .i64 r3]] w fun x w' => x = .returned (.tuple #[.int .i64 r0, .int .i64 1, .agg #[.int .i64 r0, .int .i64 r1, .int .i64 r2, .int .i64 r3], .bool true]) /\ Below w.heap.size w w' := by
 have HPL := hid (fun W => plain_any ⟨4, d, n, b⟩ W)
 rw [hpl] at HPL
 clear hpl
 go_enter Tryz.func25, Tryz.ntmps25
 go_wp2_with fail
 obtain ⟨q0, q1, q2, hb, hl⟩ := three_alloc w (.cells #[.int .i64 4, .int .i64 d, .int .i64 n, .int .u8 b] 37) (.cells #[.int .i64 r0, .int .i64 r1, .int .i64 r2, .int .i64 r3] 70) (.cells #[.int .i64 0, .int .i64 0, .int .i64 0, .int .i64 0] 70)
 generalize ((w.alloc (.cells #[.int .i64 4, .int .i64 d, .int .i64 n, .int .u8 b] 37)).alloc (.cells #[.int .i64 r0, .int .i64 r1, .int .i64 r2, .int .i64 r3] 70)).alloc (.cells #[.int .i64 0, .int .i64 0, .int .i64 0, .int .i64 0] 70) = W at *
 have HM0 := hid (show Mem w W w.heap.size ⟨4, d, n, b⟩ ⟨r0, r1, r2, r3⟩ from ⟨hb, rfl, q0, q1, q2⟩)
 clear hb q0 q1 q2 hl
 generalize w.heap.size = X at *
 refine (HPL.out _).mono ?_
 rintro x w1 ⟨rfl, hb1⟩
 have HM := hid (HM0.out.next hb1)
 obtain ⟨⟨p0, p1, p2, p3⟩, _, pl⟩ := four HM.out.hp
 obtain ⟨⟨a0, a1, a2, a3⟩, _, al⟩ := four HM.out.hr
 obtain ⟨⟨z0, z1, z2, z3⟩, ⟨f0, f1, f2, f3⟩, zl⟩ := four HM.out.hz
 clear hb1 HM0 HPL
 have HDN := hid (fun s => HM.out.done s)
 go_wp2_with fail
 all_goals
  go_region
  all_goals
   go_wp2_with fail
   refine bodyPost_ret (v := .tuple #[.int .i64 r0, .int .i64 1, .agg #[.int .i64 r0, .int .i64 r1, .int .i64 r2, .int .i64 r3], .bool true]) ?_ rfl ?_
   · simp [results, Tryz.results25, go_sem, z0, z1, z2, z3]
   · exact ⟨rfl, (HDN.out ⟨r0, r1, r2, r3⟩).drew⟩
theorem fits_short_far (d n : Int) (b : Nat) (hv r0 r1 r2 r3 : Int) (w : World) (hpl : (⟨4, d, n, b⟩ : Pt).plain = true) (c1 : ¬ r0 <= hv) :
  Calls Tryz.prog 25 #[.agg #[.int .i64 4, .int .i64 d, .int .i64 n, .int .u8 b], .int .i64 hv, .agg #[.int .i64 r0, .int .i64 r1, .int .i64 r2, .int .i64 r3]] w fun x w' => x = .returned (.tuple #[.int .i64 0, .int .i64 0, .agg #[.int .i64 r0, .int .i64 r1, .int .i64 r2, .int .i64 r3], .bool false]) /\ Below w.heap.size w w' := by
 have HPL := hid (fun W => plain_any ⟨4, d, n, b⟩ W)
 rw [hpl] at HPL
 clear hpl
 go_enter Tryz.func25, Tryz.ntmps25
 go_wp2_with fail
 obtain ⟨q0, q1, q2, hb, hl⟩ := three_alloc w (.cells #[.int .i64 4, .int .i64 d, .int .i64 n, .int .u8 b] 37) (.cells #[.int .i64 r0, .int .i64 r1, .int .i64 r2, .int .i64 r3] 70) (.cells #[.int .i64 0, .int .i64 0, .int .i64 0, .int .i64 0] 70)
 generalize ((w.alloc (.cells #[.int .i64 4, .int .i64 d, .int .i64 n, .int .u8 b] 37)).alloc (.cells #[.int .i64 r0, .int .i64 r1, .int .i64 r2, .int .i64 r3] 70)).alloc (.cells #[.int .i64 0, .int .i64 0, .int .i64 0, .int .i64 0] 70) = W at *
 have HM0 := hid (show Mem w W w.heap.size ⟨4, d, n, b⟩ ⟨r0, r1, r2, r3⟩ from ⟨hb, rfl, q0, q1, q2⟩)
 clear hb q0 q1 q2 hl
 generalize w.heap.size = X at *
 refine (HPL.out _).mono ?_
 rintro x w1 ⟨rfl, hb1⟩
 have HM := hid (HM0.out.next hb1)
 obtain ⟨⟨p0, p1, p2, p3⟩, _, pl⟩ := four HM.out.hp
 obtain ⟨⟨a0, a1, a2, a3⟩, _, al⟩ := four HM.out.hr
 obtain ⟨⟨z0, z1, z2, z3⟩, ⟨f0, f1, f2, f3⟩, zl⟩ := four HM.out.hz
 clear hb1 HM0 HPL
 have HDN := hid (fun s => HM.out.done s)
 have e1 : decide (r0 <= hv) = false := by simpa using c1
 go_wp2_with fail
 all_goals
  go_region
  all_goals
   go_wp2_with fail
   refine bodyPost_ret (v := .tuple #[.int .i64 0, .int .i64 0, .agg #[.int .i64 r0, .int .i64 r1, .int .i64 r2, .int .i64 r3], .bool false]) ?_ rfl ?_
   · simp [results, Tryz.results25, go_sem, z0, z1, z2, z3]
   · exact ⟨rfl, (HDN.out ⟨r0, r1, r2, r3⟩).drew⟩
end Go.Proofs.YtfpoabeihpfeiaaGreat.Pk
