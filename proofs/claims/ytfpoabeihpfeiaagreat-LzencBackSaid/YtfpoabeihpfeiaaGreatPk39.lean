/-
  The reference of layer 6: contract of Back, case by case (by gen_back.py): some cases.
  The reference of layer 6: contract of Back, case by case (by gen_back.py): some cases.
  The reference of layer 6: contract of Back, case by case (by gen_back.py): some cases.
-/
import Derived.Test.YtfpoabeihpfeiaaGreatPk37
import Derived.BigRegion
set_option maxRecDepth 100000
set_option maxHeartbeats 16000000
set_option linter.unusedVariables false
set_option linter.unusedSimpArgs false
open Go.Lib (hid)
section
namespace Go.Proofs.YtfpoabeihpfeiaaGreat.Pk
open Go.RowKit
theorem back_short0 (d n : Int) (b : Nat) (hv r0 r1 r2 r3 : Int) (w : World) (hb0 : ((b : Int) != 0) = false) (c1 : decide (r0 <= hv) = false) :
  Calls Tryz.prog 15 #[.agg #[.int .i64 4, .int .i64 d, .int .i64 n, .int .u8 b], .int .i64 hv, .agg #[.int .i64 r0, .int .i64 r1, .int .i64 r2, .int .i64 r3]] w (BackTo w r0 1 ⟨r0, r1, r2, r3⟩ false) := by
 go_enter Tryz.func15, Tryz.ntmps15
 go_upto_region 1 with (fail)
 obtain ⟨q0, q1, q2, hb, hl⟩ := three_alloc w (.cells #[.int .i64 4, .int .i64 d, .int .i64 n, .int .u8 b] 48) (.cells #[.int .i64 r0, .int .i64 r1, .int .i64 r2, .int .i64 r3] 50) (.cells #[.int .i64 0, .int .i64 0, .int .i64 0, .int .i64 0] 50)
 generalize ((w.alloc (.cells #[.int .i64 4, .int .i64 d, .int .i64 n, .int .u8 b] 48)).alloc (.cells #[.int .i64 r0, .int .i64 r1, .int .i64 r2, .int .i64 r3] 50)).alloc (.cells #[.int .i64 0, .int .i64 0, .int .i64 0, .int .i64 0] 50) = W at *
 have HM := hid (show MemB w W w.heap.size 4 d n b r0 r1 r2 r3 from ⟨hb, rfl, q0, q1, q2⟩)
 clear hb q0 q1 q2 hl
 generalize w.heap.size = X at *
 obtain ⟨⟨p0, p1, p2, p3⟩, _, pl⟩ := four HM.out.hp
 obtain ⟨⟨a0, a1, a2, a3⟩, _, al⟩ := four HM.out.hr
 obtain ⟨⟨z0, z1, z2, z3⟩, ⟨f0, f1, f2, f3⟩, zl⟩ := four HM.out.hz
 go_upto_region 11 with (fail)
 have HM1 := hid HM.out.drew
 go_region
 all_goals
  go_wp2_with fail
  exact back_end (Tryz.results15) rfl rfl rfl rfl rfl (by first | exact HM.out.drew.done ⟨r0, r1, r2, r3⟩ | exact (HM.out.done ⟨r0, r1, r2, r3⟩).drew')
theorem back_short1 (d n : Int) (b : Nat) (hv r0 r1 r2 r3 : Int) (w : World) (hb0 : ((b : Int) != 0) = false) (c1 : decide (r0 <= hv) = true) (c2 : (d == 0) = false) :
  Calls Tryz.prog 15 #[.agg #[.int .i64 4, .int .i64 d, .int .i64 n, .int .u8 b], .int .i64 hv, .agg #[.int .i64 r0, .int .i64 r1, .int .i64 r2, .int .i64 r3]] w (BackTo w r0 1 ⟨r0, r1, r2, r3⟩ false) := by
 go_enter Tryz.func15, Tryz.ntmps15
 go_upto_region 1 with (fail)
 obtain ⟨q0, q1, q2, hb, hl⟩ := three_alloc w (.cells #[.int .i64 4, .int .i64 d, .int .i64 n, .int .u8 b] 48) (.cells #[.int .i64 r0, .int .i64 r1, .int .i64 r2, .int .i64 r3] 50) (.cells #[.int .i64 0, .int .i64 0, .int .i64 0, .int .i64 0] 50)
 generalize ((w.alloc (.cells #[.int .i64 4, .int .i64 d, .int .i64 n, .int .u8 b] 48)).alloc (.cells #[.int .i64 r0, .int .i64 r1, .int .i64 r2, .int .i64 r3] 50)).alloc (.cells #[.int .i64 0, .int .i64 0, .int .i64 0, .int .i64 0] 50) = W at *
 have HM := hid (show MemB w W w.heap.size 4 d n b r0 r1 r2 r3 from ⟨hb, rfl, q0, q1, q2⟩)
 clear hb q0 q1 q2 hl
 generalize w.heap.size = X at *
 obtain ⟨⟨p0, p1, p2, p3⟩, _, pl⟩ := four HM.out.hp
 obtain ⟨⟨a0, a1, a2, a3⟩, _, al⟩ := four HM.out.hr
 obtain ⟨⟨z0, z1, z2, z3⟩, ⟨f0, f1, f2, f3⟩, zl⟩ := four HM.out.hz
 go_upto_region 11 with (fail)
 have HM1 := hid HM.out.drew
 go_region
 all_goals
  go_wp2_with fail
  exact back_end (Tryz.results15) rfl rfl rfl rfl rfl (by first | exact HM.out.drew.done ⟨r0, r1, r2, r3⟩ | exact (HM.out.done ⟨r0, r1, r2, r3⟩).drew')
theorem back_short2 (d n : Int) (b : Nat) (hv r0 r1 r2 r3 : Int) (w : World) (hb0 : ((b : Int) != 0) = false) (c1 : decide (r0 <= hv) = true) (c2 : (d == 0) = true) (c3 : (n == 0) = false) :
  Calls Tryz.prog 15 #[.agg #[.int .i64 4, .int .i64 d, .int .i64 n, .int .u8 b], .int .i64 hv, .agg #[.int .i64 r0, .int .i64 r1, .int .i64 r2, .int .i64 r3]] w (BackTo w r0 1 ⟨r0, r1, r2, r3⟩ false) := by
 go_enter Tryz.func15, Tryz.ntmps15
 go_upto_region 1 with (fail)
 obtain ⟨q0, q1, q2, hb, hl⟩ := three_alloc w (.cells #[.int .i64 4, .int .i64 d, .int .i64 n, .int .u8 b] 48) (.cells #[.int .i64 r0, .int .i64 r1, .int .i64 r2, .int .i64 r3] 50) (.cells #[.int .i64 0, .int .i64 0, .int .i64 0, .int .i64 0] 50)
 generalize ((w.alloc (.cells #[.int .i64 4, .int .i64 d, .int .i64 n, .int .u8 b] 48)).alloc (.cells #[.int .i64 r0, .int .i64 r1, .int .i64 r2, .int .i64 r3] 50)).alloc (.cells #[.int .i64 0, .int .i64 0, .int .i64 0, .int .i64 0] 50) = W at *
 have HM := hid (show MemB w W w.heap.size 4 d n b r0 r1 r2 r3 from ⟨hb, rfl, q0, q1, q2⟩)
 clear hb q0 q1 q2 hl
 generalize w.heap.size = X at *
 obtain ⟨⟨p0, p1, p2, p3⟩, _, pl⟩ := four HM.out.hp
 obtain ⟨⟨a0, a1, a2, a3⟩, _, al⟩ := four HM.out.hr
 obtain ⟨⟨z0, z1, z2, z3⟩, ⟨f0, f1, f2, f3⟩, zl⟩ := four HM.out.hz
 go_upto_region 11 with (fail)
 have HM1 := hid HM.out.drew
 go_region
 all_goals
  go_wp2_with fail
  exact back_end (Tryz.results15) rfl rfl rfl rfl rfl (by first | exact HM.out.drew.done ⟨r0, r1, r2, r3⟩ | exact (HM.out.done ⟨r0, r1, r2, r3⟩).drew')
theorem back_short3 (d n : Int) (b : Nat) (hv r0 r1 r2 r3 : Int) (w : World) (hb0 : ((b : Int) != 0) = false) (c1 : decide (r0 <= hv) = true) (c2 : (d == 0) = true) (c3 : (n == 0) = true) :
  Calls Tryz.prog 15 #[.agg #[.int .i64 4, .int .i64 d, .int .i64 n, .int .u8 b], .int .i64 hv, .agg #[.int .i64 r0, .int .i64 r1, .int .i64 r2, .int .i64 r3]] w (BackTo w r0 1 ⟨r0, r1, r2, r3⟩ true) := by
 go_enter Tryz.func15, Tryz.ntmps15
 go_upto_region 1 with (fail)
 obtain ⟨q0, q1, q2, hb, hl⟩ := three_alloc w (.cells #[.int .i64 4, .int .i64 d, .int .i64 n, .int .u8 b] 48) (.cells #[.int .i64 r0, .int .i64 r1, .int .i64 r2, .int .i64 r3] 50) (.cells #[.int .i64 0, .int .i64 0, .int .i64 0, .int .i64 0] 50)
 generalize ((w.alloc (.cells #[.int .i64 4, .int .i64 d, .int .i64 n, .int .u8 b] 48)).alloc (.cells #[.int .i64 r0, .int .i64 r1, .int .i64 r2, .int .i64 r3] 50)).alloc (.cells #[.int .i64 0, .int .i64 0, .int .i64 0, .int .i64 0] 50) = W at *
 have HM := hid (show MemB w W w.heap.size 4 d n b r0 r1 r2 r3 from ⟨hb, rfl, q0, q1, q2⟩)
 clear hb q0 q1 q2 hl
 generalize w.heap.size = X at *
 obtain ⟨⟨p0, p1, p2, p3⟩, _, pl⟩ := four HM.out.hp
 obtain ⟨⟨a0, a1, a2, a3⟩, _, al⟩ := four HM.out.hr
 obtain ⟨⟨z0, z1, z2, z3⟩, ⟨f0, f1, f2, f3⟩, zl⟩ := four HM.out.hz
 go_upto_region 11 with (fail)
 have HM1 := hid HM.out.drew
 go_region
 all_goals
  go_wp2_with fail
  exact back_end (Tryz.results15) rfl rfl rfl rfl rfl (by first | exact HM.out.drew.done ⟨r0, r1, r2, r3⟩ | exact (HM.out.done ⟨r0, r1, r2, r3⟩).drew')
end Go.Proofs.YtfpoabeihpfeiaaGreat.Pk
end
section
namespace Go.Proofs.YtfpoabeihpfeiaaGreat.Pk
open Go.RowKit
theorem back_rep0 (d n : Int) (b : Nat) (hv r0 r1 r2 r3 : Int) (w : World) (hb0 : ((b : Int) != 0) = false) (hd0 : 0 <= d) (hd4 : d < 4) (rd : Int) (hrd : (⟨r0, r1, r2, r3⟩ : Rp).at d = rd) (sf : Rp) (hsf : (⟨r0, r1, r2, r3⟩ : Rp).front d = sf) (c1 : decide (rd <= hv) = false) :
  Calls Tryz.prog 15 #[.agg #[.int .i64 3, .int .i64 d, .int .i64 n, .int .u8 b], .int .i64 hv, .agg #[.int .i64 r0, .int .i64 r1, .int .i64 r2, .int .i64 r3]] w (BackTo w rd n sf false) := by
 go_enter Tryz.func15, Tryz.ntmps15
 go_upto_region 1 with (fail)
 obtain ⟨q0, q1, q2, hb, hl⟩ := three_alloc w (.cells #[.int .i64 3, .int .i64 d, .int .i64 n, .int .u8 b] 48) (.cells #[.int .i64 r0, .int .i64 r1, .int .i64 r2, .int .i64 r3] 50) (.cells #[.int .i64 0, .int .i64 0, .int .i64 0, .int .i64 0] 50)
 generalize ((w.alloc (.cells #[.int .i64 3, .int .i64 d, .int .i64 n, .int .u8 b] 48)).alloc (.cells #[.int .i64 r0, .int .i64 r1, .int .i64 r2, .int .i64 r3] 50)).alloc (.cells #[.int .i64 0, .int .i64 0, .int .i64 0, .int .i64 0] 50) = W at *
 have HM := hid (show MemB w W w.heap.size 3 d n b r0 r1 r2 r3 from ⟨hb, rfl, q0, q1, q2⟩)
 clear hb q0 q1 q2 hl
 generalize w.heap.size = X at *
 obtain ⟨⟨p0, p1, p2, p3⟩, _, pl⟩ := four HM.out.hp
 obtain ⟨⟨a0, a1, a2, a3⟩, _, al⟩ := four HM.out.hr
 obtain ⟨⟨z0, z1, z2, z3⟩, ⟨f0, f1, f2, f3⟩, zl⟩ := four HM.out.hz
 go_upto_region 9 with (fail)
 have HRD := hid hrd
 have HSF := hid hsf
 clear hrd hsf
 have ex0 : W.drew.cell? ⟨X + 1, d.toNat, none⟩ = some (.int .i64 rd) := by rw [<- HRD.out]; exact at_cell HM.out.drew.hr hd0 hd4
 refine wp_region_held_drew (S := fun W => (W.cell? ⟨X, 0, none⟩ = some (.int .i64 3) /\ W.cell? ⟨X, 1, none⟩ = some (.int .i64 d) /\ W.cell? ⟨X, 2, none⟩ = some (.int .i64 n) /\ W.cell? ⟨X, 3, none⟩ = some (.int .u8 b)) /\ (W.cell? ⟨X + 1, 0, none⟩ = some (.int .i64 r0) /\ W.cell? ⟨X + 1, 1, none⟩ = some (.int .i64 r1) /\ W.cell? ⟨X + 1, 2, none⟩ = some (.int .i64 r2) /\ W.cell? ⟨X + 1, 3, none⟩ = some (.int .i64 r3)) /\ W.cell? ⟨X + 1, d.toNat, none⟩ = some (.int .i64 rd)) (by kernel_rfl) ⟨⟨p0, p1, p2, p3⟩, ⟨a0, a1, a2, a3⟩, ex0⟩ (fun hHeld => ?_)
 refine Tail.Lst.mk [0, 1, 2, 3, 4, 5, 6, 7, 8, 10, 11, 12, 13, 14, 15] ?_
 iterate 15 (refine Tail.Lst.takeH rfl (v := ?_) (Or.inl ⟨by rfl, ?_⟩) ?_; rotate_left; (next => intro w hSw; (try dsimp only at hSw); go_simp; (try with_reducible rfl)); simp only [Act.put, List.getElem_toArray, List.getElem_cons_succ, List.getElem_cons_zero, List.setIfInBounds_toArray, List.set])
 refine Tail.Lst.nil ?_
 refine wpAnyH_ready (rs := [9]) (by kernel_rfl) (by simp) ?_
 refine AllReadyH.cons rfl (fun K hK => ?_) AllReadyH.nil
 go_simp
 refine (show Calls Tryz.prog 34 #[.agg #[.int .i64 r0, .int .i64 r1, .int .i64 r2, .int .i64 r3], .int .i64 d] W.drew fun x w' => x = .returned (.agg #[.int .i64 sf.a, .int .i64 sf.b, .int .i64 sf.c, .int .i64 sf.d]) /\ Below W.drew.heap.size W.drew w' from by rw [<- HSF.out]; exact rfront_any ⟨r0, r1, r2, r3⟩ d W.drew).mono ?_
 rintro y w1 ⟨rfl, hb1⟩
 have HM1 := hid (HM.out.drew.next hb1)
 obtain ⟨⟨p0', p1', p2', p3'⟩, _, pl'⟩ := four HM1.out.hp
 obtain ⟨⟨a0', a1', a2', a3'⟩, _, al'⟩ := four HM1.out.hr
 obtain ⟨⟨z0', z1', z2', z3'⟩, ⟨f0', f1', f2', f3'⟩, zl'⟩ := four HM1.out.hz
 have ex1 : w1.cell? ⟨X + 1, d.toNat, none⟩ = some (.int .i64 rd) := by rw [<- HRD.out]; exact at_cell HM1.out.hr hd0 hd4
 refine hK.out _ _ ⟨⟨p0', p1', p2', p3'⟩, ⟨a0', a1', a2', a3'⟩, ex1⟩ (fun hHeld => ?_)
 clear hK K
 try simp only [Act.put]
 try simp only [List.setIfInBounds_toArray]
 try simp only [List.set]
 refine Tail.Lst.mk [16, 17, 18, 19, 20, 21, 22, 23, 24, 25, 26, 27] ?_
 iterate 12 ((first | (refine Tail.Lst.takeH rfl (v := ?_) (Or.inl ⟨by rfl, ?_⟩) ?_; rotate_left; (next => intro w hSw; (try dsimp only at hSw); go_simp; (try with_reducible rfl))) | refine Tail.Lst.takeH rfl (Or.inr ⟨by rfl, rfl⟩) ?_); simp only [Act.put, List.getElem_toArray, List.getElem_cons_succ, List.getElem_cons_zero, List.setIfInBounds_toArray, List.set])
 refine Tail.Lst.nil ?_
 refine wpAnyH_ready (rs := [28]) (by kernel_rfl) (by simp) ?_
 refine AllReadyH.cons rfl (fun K hK => ?_) AllReadyH.nil
 go_simp
 refine hK.out _ _ (by first | exact hHeld | exact ⟨⟨by rw [set_keep (by omega)]; exact p0', by rw [set_keep (by omega)]; exact p1', by rw [set_keep (by omega)]; exact p2', by rw [set_keep (by omega)]; exact p3'⟩, ⟨by rw [set_keep (by omega)]; exact a0', by rw [set_keep (by omega)]; exact a1', by rw [set_keep (by omega)]; exact a2', by rw [set_keep (by omega)]; exact a3'⟩, by rw [set_keep (by omega)]; exact ex1⟩) (fun hHeld => ?_)
 clear hK K
 try simp only [Act.put]
 try simp only [List.setIfInBounds_toArray]
 try simp only [List.set]
 refine wpAnyH_ready (rs := [29]) (by kernel_rfl) (by simp) ?_
 refine AllReadyH.cons rfl (fun K hK => ?_) AllReadyH.nil
 go_simp
 refine hK.out _ _ (by first | exact hHeld | exact ⟨⟨by rw [set_keep (by omega)]; exact p0', by rw [set_keep (by omega)]; exact p1', by rw [set_keep (by omega)]; exact p2', by rw [set_keep (by omega)]; exact p3'⟩, ⟨by rw [set_keep (by omega)]; exact a0', by rw [set_keep (by omega)]; exact a1', by rw [set_keep (by omega)]; exact a2', by rw [set_keep (by omega)]; exact a3'⟩, by rw [set_keep (by omega)]; exact ex1⟩) (fun hHeld => ?_)
 clear hK K
 try simp only [Act.put]
 try simp only [List.setIfInBounds_toArray]
 try simp only [List.set]
 refine wpAnyH_done (by kernel_rfl) ?_ _
 go_wp2_with fail
 exact back_end (Tryz.results15) rfl rfl rfl rfl rfl (HM1.out.done sf)
theorem back_rep1 (d n : Int) (b : Nat) (hv r0 r1 r2 r3 : Int) (w : World) (hb0 : ((b : Int) != 0) = false) (hd0 : 0 <= d) (hd4 : d < 4) (rd : Int) (hrd : (⟨r0, r1, r2, r3⟩ : Rp).at d = rd) (sf : Rp) (hsf : (⟨r0, r1, r2, r3⟩ : Rp).front d = sf) (c1 : decide (rd <= hv) = true) (c2 : decide (2 <= n) = false) :
  Calls Tryz.prog 15 #[.agg #[.int .i64 3, .int .i64 d, .int .i64 n, .int .u8 b], .int .i64 hv, .agg #[.int .i64 r0, .int .i64 r1, .int .i64 r2, .int .i64 r3]] w (BackTo w rd n sf false) := by
 go_enter Tryz.func15, Tryz.ntmps15
 go_upto_region 1 with (fail)
 obtain ⟨q0, q1, q2, hb, hl⟩ := three_alloc w (.cells #[.int .i64 3, .int .i64 d, .int .i64 n, .int .u8 b] 48) (.cells #[.int .i64 r0, .int .i64 r1, .int .i64 r2, .int .i64 r3] 50) (.cells #[.int .i64 0, .int .i64 0, .int .i64 0, .int .i64 0] 50)
 generalize ((w.alloc (.cells #[.int .i64 3, .int .i64 d, .int .i64 n, .int .u8 b] 48)).alloc (.cells #[.int .i64 r0, .int .i64 r1, .int .i64 r2, .int .i64 r3] 50)).alloc (.cells #[.int .i64 0, .int .i64 0, .int .i64 0, .int .i64 0] 50) = W at *
 have HM := hid (show MemB w W w.heap.size 3 d n b r0 r1 r2 r3 from ⟨hb, rfl, q0, q1, q2⟩)
 clear hb q0 q1 q2 hl
 generalize w.heap.size = X at *
 obtain ⟨⟨p0, p1, p2, p3⟩, _, pl⟩ := four HM.out.hp
 obtain ⟨⟨a0, a1, a2, a3⟩, _, al⟩ := four HM.out.hr
 obtain ⟨⟨z0, z1, z2, z3⟩, ⟨f0, f1, f2, f3⟩, zl⟩ := four HM.out.hz
 go_upto_region 9 with (fail)
 have HRD := hid hrd
 have HSF := hid hsf
 clear hrd hsf
 have ex0 : W.drew.cell? ⟨X + 1, d.toNat, none⟩ = some (.int .i64 rd) := by rw [<- HRD.out]; exact at_cell HM.out.drew.hr hd0 hd4
 refine wp_region_held_drew (S := fun W => (W.cell? ⟨X, 0, none⟩ = some (.int .i64 3) /\ W.cell? ⟨X, 1, none⟩ = some (.int .i64 d) /\ W.cell? ⟨X, 2, none⟩ = some (.int .i64 n) /\ W.cell? ⟨X, 3, none⟩ = some (.int .u8 b)) /\ (W.cell? ⟨X + 1, 0, none⟩ = some (.int .i64 r0) /\ W.cell? ⟨X + 1, 1, none⟩ = some (.int .i64 r1) /\ W.cell? ⟨X + 1, 2, none⟩ = some (.int .i64 r2) /\ W.cell? ⟨X + 1, 3, none⟩ = some (.int .i64 r3)) /\ W.cell? ⟨X + 1, d.toNat, none⟩ = some (.int .i64 rd)) (by kernel_rfl) ⟨⟨p0, p1, p2, p3⟩, ⟨a0, a1, a2, a3⟩, ex0⟩ (fun hHeld => ?_)
 refine Tail.Lst.mk [0, 1, 2, 3, 4, 5, 6, 7, 8, 10, 11, 12, 13, 14, 15] ?_
 iterate 15 (refine Tail.Lst.takeH rfl (v := ?_) (Or.inl ⟨by rfl, ?_⟩) ?_; rotate_left; (next => intro w hSw; (try dsimp only at hSw); go_simp; (try with_reducible rfl)); simp only [Act.put, List.getElem_toArray, List.getElem_cons_succ, List.getElem_cons_zero, List.setIfInBounds_toArray, List.set])
 refine Tail.Lst.nil ?_
 refine wpAnyH_ready (rs := [9]) (by kernel_rfl) (by simp) ?_
 refine AllReadyH.cons rfl (fun K hK => ?_) AllReadyH.nil
 go_simp
 refine (show Calls Tryz.prog 34 #[.agg #[.int .i64 r0, .int .i64 r1, .int .i64 r2, .int .i64 r3], .int .i64 d] W.drew fun x w' => x = .returned (.agg #[.int .i64 sf.a, .int .i64 sf.b, .int .i64 sf.c, .int .i64 sf.d]) /\ Below W.drew.heap.size W.drew w' from by rw [<- HSF.out]; exact rfront_any ⟨r0, r1, r2, r3⟩ d W.drew).mono ?_
 rintro y w1 ⟨rfl, hb1⟩
 have HM1 := hid (HM.out.drew.next hb1)
 obtain ⟨⟨p0', p1', p2', p3'⟩, _, pl'⟩ := four HM1.out.hp
 obtain ⟨⟨a0', a1', a2', a3'⟩, _, al'⟩ := four HM1.out.hr
 obtain ⟨⟨z0', z1', z2', z3'⟩, ⟨f0', f1', f2', f3'⟩, zl'⟩ := four HM1.out.hz
 have ex1 : w1.cell? ⟨X + 1, d.toNat, none⟩ = some (.int .i64 rd) := by rw [<- HRD.out]; exact at_cell HM1.out.hr hd0 hd4
 refine hK.out _ _ ⟨⟨p0', p1', p2', p3'⟩, ⟨a0', a1', a2', a3'⟩, ex1⟩ (fun hHeld => ?_)
 clear hK K
 try simp only [Act.put]
 try simp only [List.setIfInBounds_toArray]
 try simp only [List.set]
 refine Tail.Lst.mk [16, 17, 18, 19, 20, 21, 22, 23, 24, 25, 26, 27] ?_
 iterate 12 ((first | (refine Tail.Lst.takeH rfl (v := ?_) (Or.inl ⟨by rfl, ?_⟩) ?_; rotate_left; (next => intro w hSw; (try dsimp only at hSw); go_simp; (try with_reducible rfl))) | refine Tail.Lst.takeH rfl (Or.inr ⟨by rfl, rfl⟩) ?_); simp only [Act.put, List.getElem_toArray, List.getElem_cons_succ, List.getElem_cons_zero, List.setIfInBounds_toArray, List.set])
 refine Tail.Lst.nil ?_
 refine wpAnyH_ready (rs := [28]) (by kernel_rfl) (by simp) ?_
 refine AllReadyH.cons rfl (fun K hK => ?_) AllReadyH.nil
 go_simp
 refine hK.out _ _ (by first | exact hHeld | exact ⟨⟨by rw [set_keep (by omega)]; exact p0', by rw [set_keep (by omega)]; exact p1', by rw [set_keep (by omega)]; exact p2', by rw [set_keep (by omega)]; exact p3'⟩, ⟨by rw [set_keep (by omega)]; exact a0', by rw [set_keep (by omega)]; exact a1', by rw [set_keep (by omega)]; exact a2', by rw [set_keep (by omega)]; exact a3'⟩, by rw [set_keep (by omega)]; exact ex1⟩) (fun hHeld => ?_)
 clear hK K
 try simp only [Act.put]
 try simp only [List.setIfInBounds_toArray]
 try simp only [List.set]
 refine wpAnyH_ready (rs := [29]) (by kernel_rfl) (by simp) ?_
 refine AllReadyH.cons rfl (fun K hK => ?_) AllReadyH.nil
 go_simp
 refine hK.out _ _ (by first | exact hHeld | exact ⟨⟨by rw [set_keep (by omega)]; exact p0', by rw [set_keep (by omega)]; exact p1', by rw [set_keep (by omega)]; exact p2', by rw [set_keep (by omega)]; exact p3'⟩, ⟨by rw [set_keep (by omega)]; exact a0', by rw [set_keep (by omega)]; exact a1', by rw [set_keep (by omega)]; exact a2', by rw [set_keep (by omega)]; exact a3'⟩, by rw [set_keep (by omega)]; exact ex1⟩) (fun hHeld => ?_)
 clear hK K
 try simp only [Act.put]
 try simp only [List.setIfInBounds_toArray]
 try simp only [List.set]
 refine wpAnyH_done (by kernel_rfl) ?_ _
 go_wp2_with fail
 exact back_end (Tryz.results15) rfl rfl rfl rfl rfl (HM1.out.done sf)
end Go.Proofs.YtfpoabeihpfeiaaGreat.Pk
end
section
namespace Go.Proofs.YtfpoabeihpfeiaaGreat.Pk
open Go.RowKit
theorem back_rep2 (d n : Int) (b : Nat) (hv r0 r1 r2 r3 : Int) (w : World) (hb0 : ((b : Int) != 0) = false) (hd0 : 0 <= d) (hd4 : d < 4) (rd : Int) (hrd : (⟨r0, r1, r2, r3⟩ : Rp).at d = rd) (sf : Rp) (hsf : (⟨r0, r1, r2, r3⟩ : Rp).front d = sf) (c1 : decide (rd <= hv) = true) (c2 : decide (2 <= n) = true) (c3 : decide (n <= 273) = false) :
  Calls Tryz.prog 15 #[.agg #[.int .i64 3, .int .i64 d, .int .i64 n, .int .u8 b], .int .i64 hv, .agg #[.int .i64 r0, .int .i64 r1, .int .i64 r2, .int .i64 r3]] w (BackTo w rd n sf false) := by
 go_enter Tryz.func15, Tryz.ntmps15
 go_upto_region 1 with (fail)
 obtain ⟨q0, q1, q2, hb, hl⟩ := three_alloc w (.cells #[.int .i64 3, .int .i64 d, .int .i64 n, .int .u8 b] 48) (.cells #[.int .i64 r0, .int .i64 r1, .int .i64 r2, .int .i64 r3] 50) (.cells #[.int .i64 0, .int .i64 0, .int .i64 0, .int .i64 0] 50)
 generalize ((w.alloc (.cells #[.int .i64 3, .int .i64 d, .int .i64 n, .int .u8 b] 48)).alloc (.cells #[.int .i64 r0, .int .i64 r1, .int .i64 r2, .int .i64 r3] 50)).alloc (.cells #[.int .i64 0, .int .i64 0, .int .i64 0, .int .i64 0] 50) = W at *
 have HM := hid (show MemB w W w.heap.size 3 d n b r0 r1 r2 r3 from ⟨hb, rfl, q0, q1, q2⟩)
 clear hb q0 q1 q2 hl
 generalize w.heap.size = X at *
 obtain ⟨⟨p0, p1, p2, p3⟩, _, pl⟩ := four HM.out.hp
 obtain ⟨⟨a0, a1, a2, a3⟩, _, al⟩ := four HM.out.hr
 obtain ⟨⟨z0, z1, z2, z3⟩, ⟨f0, f1, f2, f3⟩, zl⟩ := four HM.out.hz
 go_upto_region 9 with (fail)
 have HRD := hid hrd
 have HSF := hid hsf
 clear hrd hsf
 have ex0 : W.drew.cell? ⟨X + 1, d.toNat, none⟩ = some (.int .i64 rd) := by rw [<- HRD.out]; exact at_cell HM.out.drew.hr hd0 hd4
 refine wp_region_held_drew (S := fun W => (W.cell? ⟨X, 0, none⟩ = some (.int .i64 3) /\ W.cell? ⟨X, 1, none⟩ = some (.int .i64 d) /\ W.cell? ⟨X, 2, none⟩ = some (.int .i64 n) /\ W.cell? ⟨X, 3, none⟩ = some (.int .u8 b)) /\ (W.cell? ⟨X + 1, 0, none⟩ = some (.int .i64 r0) /\ W.cell? ⟨X + 1, 1, none⟩ = some (.int .i64 r1) /\ W.cell? ⟨X + 1, 2, none⟩ = some (.int .i64 r2) /\ W.cell? ⟨X + 1, 3, none⟩ = some (.int .i64 r3)) /\ W.cell? ⟨X + 1, d.toNat, none⟩ = some (.int .i64 rd)) (by kernel_rfl) ⟨⟨p0, p1, p2, p3⟩, ⟨a0, a1, a2, a3⟩, ex0⟩ (fun hHeld => ?_)
 refine Tail.Lst.mk [0, 1, 2, 3, 4, 5, 6, 7, 8, 10, 11, 12, 13, 14, 15] ?_
 iterate 15 (refine Tail.Lst.takeH rfl (v := ?_) (Or.inl ⟨by rfl, ?_⟩) ?_; rotate_left; (next => intro w hSw; (try dsimp only at hSw); go_simp; (try with_reducible rfl)); simp only [Act.put, List.getElem_toArray, List.getElem_cons_succ, List.getElem_cons_zero, List.setIfInBounds_toArray, List.set])
 refine Tail.Lst.nil ?_
 refine wpAnyH_ready (rs := [9]) (by kernel_rfl) (by simp) ?_
 refine AllReadyH.cons rfl (fun K hK => ?_) AllReadyH.nil
 go_simp
 refine (show Calls Tryz.prog 34 #[.agg #[.int .i64 r0, .int .i64 r1, .int .i64 r2, .int .i64 r3], .int .i64 d] W.drew fun x w' => x = .returned (.agg #[.int .i64 sf.a, .int .i64 sf.b, .int .i64 sf.c, .int .i64 sf.d]) /\ Below W.drew.heap.size W.drew w' from by rw [<- HSF.out]; exact rfront_any ⟨r0, r1, r2, r3⟩ d W.drew).mono ?_
 rintro y w1 ⟨rfl, hb1⟩
 have HM1 := hid (HM.out.drew.next hb1)
 obtain ⟨⟨p0', p1', p2', p3'⟩, _, pl'⟩ := four HM1.out.hp
 obtain ⟨⟨a0', a1', a2', a3'⟩, _, al'⟩ := four HM1.out.hr
 obtain ⟨⟨z0', z1', z2', z3'⟩, ⟨f0', f1', f2', f3'⟩, zl'⟩ := four HM1.out.hz
 have ex1 : w1.cell? ⟨X + 1, d.toNat, none⟩ = some (.int .i64 rd) := by rw [<- HRD.out]; exact at_cell HM1.out.hr hd0 hd4
 refine hK.out _ _ ⟨⟨p0', p1', p2', p3'⟩, ⟨a0', a1', a2', a3'⟩, ex1⟩ (fun hHeld => ?_)
 clear hK K
 try simp only [Act.put]
 try simp only [List.setIfInBounds_toArray]
 try simp only [List.set]
 refine Tail.Lst.mk [16, 17, 18, 19, 20, 21, 22, 23, 24, 25, 26, 27] ?_
 iterate 12 (refine Tail.Lst.takeH rfl (v := ?_) (Or.inl ⟨by rfl, ?_⟩) ?_; rotate_left; (next => intro w hSw; (try dsimp only at hSw); go_simp; (try with_reducible rfl)); simp only [Act.put, List.getElem_toArray, List.getElem_cons_succ, List.getElem_cons_zero, List.setIfInBounds_toArray, List.set])
 refine Tail.Lst.nil ?_
 refine wpAnyH_ready (rs := [28]) (by kernel_rfl) (by simp) ?_
 refine AllReadyH.cons rfl (fun K hK => ?_) AllReadyH.nil
 go_simp
 refine hK.out _ _ (by first | exact hHeld | exact ⟨⟨by rw [set_keep (by omega)]; exact p0', by rw [set_keep (by omega)]; exact p1', by rw [set_keep (by omega)]; exact p2', by rw [set_keep (by omega)]; exact p3'⟩, ⟨by rw [set_keep (by omega)]; exact a0', by rw [set_keep (by omega)]; exact a1', by rw [set_keep (by omega)]; exact a2', by rw [set_keep (by omega)]; exact a3'⟩, by rw [set_keep (by omega)]; exact ex1⟩) (fun hHeld => ?_)
 clear hK K
 try simp only [Act.put]
 try simp only [List.setIfInBounds_toArray]
 try simp only [List.set]
 refine wpAnyH_ready (rs := [29]) (by kernel_rfl) (by simp) ?_
 refine AllReadyH.cons rfl (fun K hK => ?_) AllReadyH.nil
 go_simp
 refine hK.out _ _ (by first | exact hHeld | exact ⟨⟨by rw [set_keep (by omega)]; exact p0', by rw [set_keep (by omega)]; exact p1', by rw [set_keep (by omega)]; exact p2', by rw [set_keep (by omega)]; exact p3'⟩, ⟨by rw [set_keep (by omega)]; exact a0', by rw [set_keep (by omega)]; exact a1', by rw [set_keep (by omega)]; exact a2', by rw [set_keep (by omega)]; exact a3'⟩, by rw [set_keep (by omega)]; exact ex1⟩) (fun hHeld => ?_)
 clear hK K
 try simp only [Act.put]
 try simp only [List.setIfInBounds_toArray]
 try simp only [List.set]
 refine wpAnyH_done (by kernel_rfl) ?_ _
 go_wp2_with fail
 exact back_end (Tryz.results15) rfl rfl rfl rfl rfl (HM1.out.done sf)
theorem back_rep3 (d n : Int) (b : Nat) (hv r0 r1 r2 r3 : Int) (w : World) (hb0 : ((b : Int) != 0) = false) (hd0 : 0 <= d) (hd4 : d < 4) (rd : Int) (hrd : (⟨r0, r1, r2, r3⟩ : Rp).at d = rd) (sf : Rp) (hsf : (⟨r0, r1, r2, r3⟩ : Rp).front d = sf) (c1 : decide (rd <= hv) = true) (c2 : decide (2 <= n) = true) (c3 : decide (n <= 273) = true) :
  Calls Tryz.prog 15 #[.agg #[.int .i64 3, .int .i64 d, .int .i64 n, .int .u8 b], .int .i64 hv, .agg #[.int .i64 r0, .int .i64 r1, .int .i64 r2, .int .i64 r3]] w (BackTo w rd n sf true) := by
 go_enter Tryz.func15, Tryz.ntmps15
 go_upto_region 1 with (fail)
 obtain ⟨q0, q1, q2, hb, hl⟩ := three_alloc w (.cells #[.int .i64 3, .int .i64 d, .int .i64 n, .int .u8 b] 48) (.cells #[.int .i64 r0, .int .i64 r1, .int .i64 r2, .int .i64 r3] 50) (.cells #[.int .i64 0, .int .i64 0, .int .i64 0, .int .i64 0] 50)
 generalize ((w.alloc (.cells #[.int .i64 3, .int .i64 d, .int .i64 n, .int .u8 b] 48)).alloc (.cells #[.int .i64 r0, .int .i64 r1, .int .i64 r2, .int .i64 r3] 50)).alloc (.cells #[.int .i64 0, .int .i64 0, .int .i64 0, .int .i64 0] 50) = W at *
 have HM := hid (show MemB w W w.heap.size 3 d n b r0 r1 r2 r3 from ⟨hb, rfl, q0, q1, q2⟩)
 clear hb q0 q1 q2 hl
 generalize w.heap.size = X at *
 obtain ⟨⟨p0, p1, p2, p3⟩, _, pl⟩ := four HM.out.hp
 obtain ⟨⟨a0, a1, a2, a3⟩, _, al⟩ := four HM.out.hr
 obtain ⟨⟨z0, z1, z2, z3⟩, ⟨f0, f1, f2, f3⟩, zl⟩ := four HM.out.hz
 go_upto_region 9 with (fail)
 have HRD := hid hrd
 have HSF := hid hsf
 clear hrd hsf
 have ex0 : W.drew.cell? ⟨X + 1, d.toNat, none⟩ = some (.int .i64 rd) := by rw [<- HRD.out]; exact at_cell HM.out.drew.hr hd0 hd4
 refine wp_region_held_drew (S := fun W => (W.cell? ⟨X, 0, none⟩ = some (.int .i64 3) /\ W.cell? ⟨X, 1, none⟩ = some (.int .i64 d) /\ W.cell? ⟨X, 2, none⟩ = some (.int .i64 n) /\ W.cell? ⟨X, 3, none⟩ = some (.int .u8 b)) /\ (W.cell? ⟨X + 1, 0, none⟩ = some (.int .i64 r0) /\ W.cell? ⟨X + 1, 1, none⟩ = some (.int .i64 r1) /\ W.cell? ⟨X + 1, 2, none⟩ = some (.int .i64 r2) /\ W.cell? ⟨X + 1, 3, none⟩ = some (.int .i64 r3)) /\ W.cell? ⟨X + 1, d.toNat, none⟩ = some (.int .i64 rd)) (by kernel_rfl) ⟨⟨p0, p1, p2, p3⟩, ⟨a0, a1, a2, a3⟩, ex0⟩ (fun hHeld => ?_)
 refine Tail.Lst.mk [0, 1, 2, 3, 4, 5, 6, 7, 8, 10, 11, 12, 13, 14, 15] ?_
 iterate 15 (refine Tail.Lst.takeH rfl (v := ?_) (Or.inl ⟨by rfl, ?_⟩) ?_; rotate_left; (next => intro w hSw; (try dsimp only at hSw); go_simp; (try with_reducible rfl)); simp only [Act.put, List.getElem_toArray, List.getElem_cons_succ, List.getElem_cons_zero, List.setIfInBounds_toArray, List.set])
 refine Tail.Lst.nil ?_
 refine wpAnyH_ready (rs := [9]) (by kernel_rfl) (by simp) ?_
 refine AllReadyH.cons rfl (fun K hK => ?_) AllReadyH.nil
 go_simp
 refine (show Calls Tryz.prog 34 #[.agg #[.int .i64 r0, .int .i64 r1, .int .i64 r2, .int .i64 r3], .int .i64 d] W.drew fun x w' => x = .returned (.agg #[.int .i64 sf.a, .int .i64 sf.b, .int .i64 sf.c, .int .i64 sf.d]) /\ Below W.drew.heap.size W.drew w' from by rw [<- HSF.out]; exact rfront_any ⟨r0, r1, r2, r3⟩ d W.drew).mono ?_
 rintro y w1 ⟨rfl, hb1⟩
 have HM1 := hid (HM.out.drew.next hb1)
 obtain ⟨⟨p0', p1', p2', p3'⟩, _, pl'⟩ := four HM1.out.hp
 obtain ⟨⟨a0', a1', a2', a3'⟩, _, al'⟩ := four HM1.out.hr
 obtain ⟨⟨z0', z1', z2', z3'⟩, ⟨f0', f1', f2', f3'⟩, zl'⟩ := four HM1.out.hz
 have ex1 : w1.cell? ⟨X + 1, d.toNat, none⟩ = some (.int .i64 rd) := by rw [<- HRD.out]; exact at_cell HM1.out.hr hd0 hd4
 refine hK.out _ _ ⟨⟨p0', p1', p2', p3'⟩, ⟨a0', a1', a2', a3'⟩, ex1⟩ (fun hHeld => ?_)
 clear hK K
 try simp only [Act.put]
 try simp only [List.setIfInBounds_toArray]
 try simp only [List.set]
 refine Tail.Lst.mk [16, 17, 18, 19, 20, 21, 22, 23, 24, 25, 26, 27] ?_
 iterate 12 (refine Tail.Lst.takeH rfl (v := ?_) (Or.inl ⟨by rfl, ?_⟩) ?_; rotate_left; (next => intro w hSw; (try dsimp only at hSw); go_simp; (try with_reducible rfl)); simp only [Act.put, List.getElem_toArray, List.getElem_cons_succ, List.getElem_cons_zero, List.setIfInBounds_toArray, List.set])
 refine Tail.Lst.nil ?_
 refine wpAnyH_ready (rs := [28]) (by kernel_rfl) (by simp) ?_
 refine AllReadyH.cons rfl (fun K hK => ?_) AllReadyH.nil
 go_simp
 refine hK.out _ _ (by first | exact hHeld | exact ⟨⟨by rw [set_keep (by omega)]; exact p0', by rw [set_keep (by omega)]; exact p1', by rw [set_keep (by omega)]; exact p2', by rw [set_keep (by omega)]; exact p3'⟩, ⟨by rw [set_keep (by omega)]; exact a0', by rw [set_keep (by omega)]; exact a1', by rw [set_keep (by omega)]; exact a2', by rw [set_keep (by omega)]; exact a3'⟩, by rw [set_keep (by omega)]; exact ex1⟩) (fun hHeld => ?_)
 clear hK K
 try simp only [Act.put]
 try simp only [List.setIfInBounds_toArray]
 try simp only [List.set]
 refine wpAnyH_ready (rs := [29]) (by kernel_rfl) (by simp) ?_
 refine AllReadyH.cons rfl (fun K hK => ?_) AllReadyH.nil
 go_simp
 refine hK.out _ _ (by first | exact hHeld | exact ⟨⟨by rw [set_keep (by omega)]; exact p0', by rw [set_keep (by omega)]; exact p1', by rw [set_keep (by omega)]; exact p2', by rw [set_keep (by omega)]; exact p3'⟩, ⟨by rw [set_keep (by omega)]; exact a0', by rw [set_keep (by omega)]; exact a1', by rw [set_keep (by omega)]; exact a2', by rw [set_keep (by omega)]; exact a3'⟩, by rw [set_keep (by omega)]; exact ex1⟩) (fun hHeld => ?_)
 clear hK K
 try simp only [Act.put]
 try simp only [List.setIfInBounds_toArray]
 try simp only [List.set]
 refine wpAnyH_done (by kernel_rfl) ?_ _
 go_wp2_with fail
 exact back_end (Tryz.results15) rfl rfl rfl rfl rfl (HM1.out.done sf)
end Go.Proofs.YtfpoabeihpfeiaaGreat.Pk
end
