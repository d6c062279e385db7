/-
  The reference of layer 6: contract of Back, case by case (by gen_back.py).
-/
import Derived.Test.YtfpoabeihpfeiaaGreatPk04
import Derived.Test.YtfpoabeihpfeiaaGreatPk27
import Derived.Deep.RegionHeld3
set_option maxRecDepth 100000
set_option maxHeartbeats 16000000
set_option linter.unusedVariables false
set_option linter.unusedSimpArgs false
open Go.Lib (hid)
namespace Go.Proofs.YtfpoabeihpfeiaaGreat.Pk
open Go.RowKit
def BackTo (w : World) (d n : Int) (s : Rp) (ok : Bool) (x : Ending) (w' : World) : Prop := x = .returned (.tuple #[.int .i64 d, .int .i64 n, .agg #[.int .i64 s.a, .int .i64 s.b, .int .i64 s.c, .int .i64 s.d], .bool ok]) /\ Below w.heap.size w w'
structure MemB (w w1 : World) (X : Nat) (k d n : Int) (b : Nat) (r0 r1 r2 r3 : Int) : Prop where
 below : Below w.heap.size w w1
 eqX : w.heap.size = X
 hp : w1.heap[X]? = some (.cells #[.int .i64 k, .int .i64 d, .int .i64 n, .int .u8 b] 48 (0, 0))
 hr : w1.heap[X + 1]? = some (.cells #[.int .i64 r0, .int .i64 r1, .int .i64 r2, .int .i64 r3] 50 (0, 0))
 hz : w1.heap[X + 1 + 1]? = some (.cells #[.int .i64 0, .int .i64 0, .int .i64 0, .int .i64 0] 50 (0, 0))
theorem MemB.next {w w1 w2 : World} {X b : Nat} {k d n r0 r1 r2 r3 : Int} (h : MemB w w1 X k d n b r0 r1 r2 r3) (hb : Below w1.heap.size w1 w2) : MemB w w2 X k d n b r0 r1 r2 r3 :=
 ⟨h.below.trans (hb.mono h.below.size), h.eqX, (hb.block _ (lt_of_heap h.hp)).trans h.hp, (hb.block _ (lt_of_heap h.hr)).trans h.hr, (hb.block _ (lt_of_heap h.hz)).trans h.hz⟩
theorem MemB.drew {w w1 : World} {X b : Nat} {k d n r0 r1 r2 r3 : Int} (h : MemB w w1 X k d n b r0 r1 r2 r3) : MemB w w1.drew X k d n b r0 r1 r2 r3 := h.next ⟨rfl, rfl, rfl, Nat.le_refl _, fun _ _ => rfl⟩
def LaidB (w : World) (X : Nat) (s : Rp) (W : World) : Prop := W.heap[X + 1 + 1]? = some (.cells #[.int .i64 s.a, .int .i64 s.b, .int .i64 s.c, .int .i64 s.d] 50 (0, 0)) /\ Below w.heap.size w W
theorem four_set {w : World} {X : Nat} {z0 z1 z2 z3 : Value} {t : TypeId} (h : w.heap[X]? = some (.cells #[z0, z1, z2, z3] t (0, 0))) (a b c d : Value) :
  ((((w.setCell ⟨X, 0, none⟩ a).setCell ⟨X, 1, none⟩ b).setCell ⟨X, 2, none⟩ c).setCell ⟨X, 3, none⟩ d).heap[X]? = some (.cells #[a, b, c, d] t (0, 0)) := by
 have h1 := heap_setCell_same w X 0 _ _ a h
 have h2 := heap_setCell_same _ X 1 _ _ b h1
 have h3 := heap_setCell_same _ X 2 _ _ c h2
 have h4 := heap_setCell_same _ X 3 _ _ d h3
 simpa using h4
theorem MemB.done {w w1 : World} {X b : Nat} {k d n r0 r1 r2 r3 : Int} (h : MemB w w1 X k d n b r0 r1 r2 r3) (s : Rp) : LaidB w X s ((((w1.setCell ⟨X + 1 + 1, 0, none⟩ (.int .i64 s.a)).setCell ⟨X + 1 + 1, 1, none⟩ (.int .i64 s.b)).setCell ⟨X + 1 + 1, 2, none⟩ (.int .i64 s.c)).setCell ⟨X + 1 + 1, 3, none⟩ (.int .i64 s.d)) :=
 ⟨four_set h.hz _ _ _ _, below_four h.below (by have := h.eqX; omega) _ _ _ _⟩
theorem LaidB.drew' {w W : World} {X : Nat} {s : Rp} (h : LaidB w X s W) : LaidB w X s W.drew := ⟨h.1, ⟨h.2.os, h.2.tape, h.2.output, h.2.size, h.2.block⟩⟩
theorem sizeA4 : (Tryz.prog.info? 50).map (·.size) = some 4 := by kernel_rfl
theorem back_end {w w' : World} {fn : Func} {a : Act} {X : Nat} {d n : Int} {s : Rp} {ok : Bool} (hres : fn.results = #[.tmp 6, .tmp 7, .cell 8 50, .tmp 9]) (h6 : a.tmps.getD 6 undef = .int .i64 d) (h7 : a.tmps.getD 7 undef = .int .i64 n) (h8 : a.tmps.getD 8 undef = .pointer (some ⟨X + 1 + 1, 0, none⟩)) (h9 : a.tmps.getD 9 undef = .bool ok) (hd : a.defers = []) (h : LaidB w X s w') :
  bodyPost Tryz.prog fn (BackTo w d n s ok) .ret a w' := by
 have h6' : a.tmps[6]?.getD undef = .int .i64 d := by simpa using h6
 have h7' : a.tmps[7]?.getD undef = .int .i64 n := by simpa using h7
 have h8' : a.tmps[8]?.getD undef = .pointer (some ⟨X + 1 + 1, 0, none⟩) := by simpa using h8
 have h9' : a.tmps[9]?.getD undef = .bool ok := by simpa using h9
 have hlv := run_loadVar_row (P := Tryz.prog) w' (X + 1 + 1) 50 50 _ (0, 0) _ h.1 Tryz.underlying50 rfl sizeA4
 exact bodyPost_ret (v := .tuple #[.int .i64 d, .int .i64 n, .agg #[.int .i64 s.a, .int .i64 s.b, .int .i64 s.c, .int .i64 s.d], .bool ok]) (by simp [results, hres, h6', h7', h8', h9', asAddr, hlv]) hd ⟨rfl, h.2⟩
theorem at_cell {W : World} {X : Nat} {d r0 r1 r2 r3 : Int} {t : TypeId} (h : W.heap[X + 1]? = some (.cells #[.int .i64 r0, .int .i64 r1, .int .i64 r2, .int .i64 r3] t (0, 0))) (h0 : 0 <= d) (h4 : d < 4) : W.cell? ⟨X + 1, d.toNat, none⟩ = some (.int .i64 ((⟨r0, r1, r2, r3⟩ : Rp).at d)) := by
 obtain ⟨⟨a0, a1, a2, a3⟩, _⟩ := four h
 have : d = 0 \/ d = 1 \/ d = 2 \/ d = 3 := by omega
 rcases this with rfl | rfl | rfl | rfl
 · exact a0
 · exact a1
 · exact a2
 · exact a3
theorem back_b (k d n : Int) (b : Nat) (hv r0 r1 r2 r3 : Int) (w : World) (hb0 : ((b : Int) != 0) = true) :
  Calls Tryz.prog 15 #[.agg #[.int .i64 k, .int .i64 d, .int .i64 n, .int .u8 b], .int .i64 hv, .agg #[.int .i64 r0, .int .i64 r1, .int .i64 r2, .int .i64 r3]] w (BackTo w 0 0 ⟨r0, r1, r2, r3⟩ false) := by
 go_enter Tryz.func15, Tryz.ntmps15
 go_upto_region 1 with (fail)
 obtain ⟨q0, q1, q2, hb, hl⟩ := three_alloc w (.cells #[.int .i64 k, .int .i64 d, .int .i64 n, .int .u8 b] 48) (.cells #[.int .i64 r0, .int .i64 r1, .int .i64 r2, .int .i64 r3] 50) (.cells #[.int .i64 0, .int .i64 0, .int .i64 0, .int .i64 0] 50)
 generalize ((w.alloc (.cells #[.int .i64 k, .int .i64 d, .int .i64 n, .int .u8 b] 48)).alloc (.cells #[.int .i64 r0, .int .i64 r1, .int .i64 r2, .int .i64 r3] 50)).alloc (.cells #[.int .i64 0, .int .i64 0, .int .i64 0, .int .i64 0] 50) = W at *
 have HM := hid (show MemB w W w.heap.size k d n b r0 r1 r2 r3 from ⟨hb, rfl, q0, q1, q2⟩)
 clear hb q0 q1 q2 hl
 generalize w.heap.size = X at *
 obtain ⟨⟨p0, p1, p2, p3⟩, _, pl⟩ := four HM.out.hp
 obtain ⟨⟨a0, a1, a2, a3⟩, _, al⟩ := four HM.out.hr
 obtain ⟨⟨z0, z1, z2, z3⟩, ⟨f0, f1, f2, f3⟩, zl⟩ := four HM.out.hz
 go_upto_region 2 with (fail)
 go_region
 all_goals
  go_wp2_with fail
  exact back_end (Tryz.results15) rfl rfl rfl rfl rfl (HM.out.done ⟨r0, r1, r2, r3⟩).drew'
theorem back_kind (k d n : Int) (b : Nat) (hv r0 r1 r2 r3 : Int) (w : World) (hb0 : ((b : Int) != 0) = false) (h2 : (k == 2) = false) (h3 : (k == 3) = false) (h4 : (k == 4) = false) :
  Calls Tryz.prog 15 #[.agg #[.int .i64 k, .int .i64 d, .int .i64 n, .int .u8 b], .int .i64 hv, .agg #[.int .i64 r0, .int .i64 r1, .int .i64 r2, .int .i64 r3]] w (BackTo w 0 0 ⟨r0, r1, r2, r3⟩ false) := by
 go_enter Tryz.func15, Tryz.ntmps15
 go_upto_region 1 with (fail)
 obtain ⟨q0, q1, q2, hb, hl⟩ := three_alloc w (.cells #[.int .i64 k, .int .i64 d, .int .i64 n, .int .u8 b] 48) (.cells #[.int .i64 r0, .int .i64 r1, .int .i64 r2, .int .i64 r3] 50) (.cells #[.int .i64 0, .int .i64 0, .int .i64 0, .int .i64 0] 50)
 generalize ((w.alloc (.cells #[.int .i64 k, .int .i64 d, .int .i64 n, .int .u8 b] 48)).alloc (.cells #[.int .i64 r0, .int .i64 r1, .int .i64 r2, .int .i64 r3] 50)).alloc (.cells #[.int .i64 0, .int .i64 0, .int .i64 0, .int .i64 0] 50) = W at *
 have HM := hid (show MemB w W w.heap.size k d n b r0 r1 r2 r3 from ⟨hb, rfl, q0, q1, q2⟩)
 clear hb q0 q1 q2 hl
 generalize w.heap.size = X at *
 obtain ⟨⟨p0, p1, p2, p3⟩, _, pl⟩ := four HM.out.hp
 obtain ⟨⟨a0, a1, a2, a3⟩, _, al⟩ := four HM.out.hr
 obtain ⟨⟨z0, z1, z2, z3⟩, ⟨f0, f1, f2, f3⟩, zl⟩ := four HM.out.hz
 go_upto_region 12 with (fail)
 go_region
 all_goals
  go_wp2_with fail
  exact back_end (Tryz.results15) rfl rfl rfl rfl rfl (HM.out.done ⟨r0, r1, r2, r3⟩).drew'
theorem back_low (d n : Int) (b : Nat) (hv r0 r1 r2 r3 : Int) (w : World) (hb0 : ((b : Int) != 0) = false) (hd0 : decide (d < 0) = true) :
  Calls Tryz.prog 15 #[.agg #[.int .i64 3, .int .i64 d, .int .i64 n, .int .u8 b], .int .i64 hv, .agg #[.int .i64 r0, .int .i64 r1, .int .i64 r2, .int .i64 r3]] w (BackTo w 0 0 ⟨r0, r1, r2, r3⟩ false) := by
 go_enter Tryz.func15, Tryz.ntmps15
 go_upto_region 1 with (fail)
 obtain ⟨q0, q1, q2, hb, hl⟩ := three_alloc w (.cells #[.int .i64 3, .int .i64 d, .int .i64 n, .int .u8 b] 48) (.cells #[.int .i64 r0, .int .i64 r1, .int .i64 r2, .int .i64 r3] 50) (.cells #[.int .i64 0, .int .i64 0, .int .i64 0, .int .i64 0] 50)
 generalize ((w.alloc (.cells #[.int .i64 3, .int .i64 d, .int .i64 n, .int .u8 b] 48)).alloc (.cells #[.int .i64 r0, .int .i64 r1, .int .i64 r2, .int .i64 r3] 50)).alloc (.cells #[.int .i64 0, .int .i64 0, .int .i64 0, .int .i64 0] 50) = W at *
 have HM := hid (show MemB w W w.heap.size 3 d n b r0 r1 r2 r3 from ⟨hb, rfl, q0, q1, q2⟩)
 clear hb q0 q1 q2 hl
 generalize w.heap.size = X at *
 obtain ⟨⟨p0, p1, p2, p3⟩, _, pl⟩ := four HM.out.hp
 obtain ⟨⟨a0, a1, a2, a3⟩, _, al⟩ := four HM.out.hr
 obtain ⟨⟨z0, z1, z2, z3⟩, ⟨f0, f1, f2, f3⟩, zl⟩ := four HM.out.hz
 go_upto_region 8 with (fail)
 go_region
 all_goals
  go_wp2_with fail
  exact back_end (Tryz.results15) rfl rfl rfl rfl rfl (HM.out.done ⟨r0, r1, r2, r3⟩).drew'
theorem back_high (d n : Int) (b : Nat) (hv r0 r1 r2 r3 : Int) (w : World) (hb0 : ((b : Int) != 0) = false) (hd0 : decide (d < 0) = false) (hd4 : decide (3 < d) = true) :
  Calls Tryz.prog 15 #[.agg #[.int .i64 3, .int .i64 d, .int .i64 n, .int .u8 b], .int .i64 hv, .agg #[.int .i64 r0, .int .i64 r1, .int .i64 r2, .int .i64 r3]] w (BackTo w 0 0 ⟨r0, r1, r2, r3⟩ false) := by
 go_enter Tryz.func15, Tryz.ntmps15
 go_upto_region 1 with (fail)
 obtain ⟨q0, q1, q2, hb, hl⟩ := three_alloc w (.cells #[.int .i64 3, .int .i64 d, .int .i64 n, .int .u8 b] 48) (.cells #[.int .i64 r0, .int .i64 r1, .int .i64 r2, .int .i64 r3] 50) (.cells #[.int .i64 0, .int .i64 0, .int .i64 0, .int .i64 0] 50)
 generalize ((w.alloc (.cells #[.int .i64 3, .int .i64 d, .int .i64 n, .int .u8 b] 48)).alloc (.cells #[.int .i64 r0, .int .i64 r1, .int .i64 r2, .int .i64 r3] 50)).alloc (.cells #[.int .i64 0, .int .i64 0, .int .i64 0, .int .i64 0] 50) = W at *
 have HM := hid (show MemB w W w.heap.size 3 d n b r0 r1 r2 r3 from ⟨hb, rfl, q0, q1, q2⟩)
 clear hb q0 q1 q2 hl
 generalize w.heap.size = X at *
 obtain ⟨⟨p0, p1, p2, p3⟩, _, pl⟩ := four HM.out.hp
 obtain ⟨⟨a0, a1, a2, a3⟩, _, al⟩ := four HM.out.hr
 obtain ⟨⟨z0, z1, z2, z3⟩, ⟨f0, f1, f2, f3⟩, zl⟩ := four HM.out.hz
 go_upto_region 8 with (fail)
 go_region
 all_goals
  go_wp2_with fail
  exact back_end (Tryz.results15) rfl rfl rfl rfl rfl (HM.out.done ⟨r0, r1, r2, r3⟩).drew'
end Go.Proofs.YtfpoabeihpfeiaaGreat.Pk
