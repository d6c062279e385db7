/-
  The reference of layer 6: contract of Back, case by case (by gen_back.py): some cases.
  The reference of layer 6: contract of Back, case by case (by gen_back.py): some cases.
  The reference of layer 6: contract of Back, case by case (by gen_back.py): some cases.
-/
import Derived.Test.YtfpoabeihpfeiaaGreatPk37
import Derived.BigRegion
set_option maxRecDepth 100000
set_option maxHeartbeats 16000000
set_option linter.unusedVariables false
set_option linter.unusedSimpArgs false
open Go.Lib (hid)
section
namespace Go.Proofs.YtfpoabeihpfeiaaGreat.Pk
open Go.RowKit
theorem back_match0 (d n : Int) (b : Nat) (hv r0 r1 r2 r3 : Int) (w : World) (hb0 : ((b : Int) != 0) = false) (c1 : decide (1 <= d) = false) :
  Calls Tryz.prog 15 #[.agg #[.int .i64 2, .int .i64 d, .int .i64 n, .int .u8 b], .int .i64 hv, .agg #[.int .i64 r0, .int .i64 r1, .int .i64 r2, .int .i64 r3]] w (BackTo w d n ⟨d, r0, r1, r2⟩ false) := by
 go_enter Tryz.func15, Tryz.ntmps15
 go_upto_region 1 with (fail)
 obtain ⟨q0, q1, q2, hb, hl⟩ := three_alloc w (.cells #[.int .i64 2, .int .i64 d, .int .i64 n, .int .u8 b] 48) (.cells #[.int .i64 r0, .int .i64 r1, .int .i64 r2, .int .i64 r3] 50) (.cells #[.int .i64 0, .int .i64 0, .int .i64 0, .int .i64 0] 50)
 generalize ((w.alloc (.cells #[.int .i64 2, .int .i64 d, .int .i64 n, .int .u8 b] 48)).alloc (.cells #[.int .i64 r0, .int .i64 r1, .int .i64 r2, .int .i64 r3] 50)).alloc (.cells #[.int .i64 0, .int .i64 0, .int .i64 0, .int .i64 0] 50) = W at *
 have HM := hid (show MemB w W w.heap.size 2 d n b r0 r1 r2 r3 from ⟨hb, rfl, q0, q1, q2⟩)
 clear hb q0 q1 q2 hl
 generalize w.heap.size = X at *
 obtain ⟨⟨p0, p1, p2, p3⟩, _, pl⟩ := four HM.out.hp
 obtain ⟨⟨a0, a1, a2, a3⟩, _, al⟩ := four HM.out.hr
 obtain ⟨⟨z0, z1, z2, z3⟩, ⟨f0, f1, f2, f3⟩, zl⟩ := four HM.out.hz
 go_upto_region 5 with (fail)
 refine wp_region_held_drew (S := fun W => (W.cell? ⟨X, 0, none⟩ = some (.int .i64 2) /\ W.cell? ⟨X, 1, none⟩ = some (.int .i64 d) /\ W.cell? ⟨X, 2, none⟩ = some (.int .i64 n) /\ W.cell? ⟨X, 3, none⟩ = some (.int .u8 b)) /\ (W.cell? ⟨X + 1, 0, none⟩ = some (.int .i64 r0) /\ W.cell? ⟨X + 1, 1, none⟩ = some (.int .i64 r1) /\ W.cell? ⟨X + 1, 2, none⟩ = some (.int .i64 r2) /\ W.cell? ⟨X + 1, 3, none⟩ = some (.int .i64 r3))) (by kernel_rfl) ⟨⟨p0, p1, p2, p3⟩, ⟨a0, a1, a2, a3⟩⟩ (fun hHeld => ?_)
 refine Tail.Lst.mk [0, 1, 2, 3, 4, 5, 6, 8, 9, 10] ?_
 iterate 10 (refine Tail.Lst.takeH rfl (v := ?_) (Or.inl ⟨by rfl, ?_⟩) ?_; rotate_left; (next => intro w hSw; (try dsimp only at hSw); go_simp; (try with_reducible rfl)); simp only [Act.put, List.getElem_toArray, List.getElem_cons_succ, List.getElem_cons_zero, List.setIfInBounds_toArray, List.set])
 refine Tail.Lst.nil ?_
 refine wpAnyH_ready (rs := [7]) (by kernel_rfl) (by simp) ?_
 refine AllReadyH.cons rfl (fun K hK => ?_) AllReadyH.nil
 go_simp
 refine (show Calls Tryz.prog 33 #[.agg #[.int .i64 r0, .int .i64 r1, .int .i64 r2, .int .i64 r3], .int .i64 d] W.drew fun x w' => x = .returned (.agg #[.int .i64 d, .int .i64 r0, .int .i64 r1, .int .i64 r2]) /\ Below W.drew.heap.size W.drew w' from rpush_any ⟨r0, r1, r2, r3⟩ d W.drew).mono ?_
 rintro y w1 ⟨rfl, hb1⟩
 have HM1 := hid (HM.out.drew.next hb1)
 obtain ⟨⟨p0', p1', p2', p3'⟩, _, pl'⟩ := four HM1.out.hp
 obtain ⟨⟨a0', a1', a2', a3'⟩, _, al'⟩ := four HM1.out.hr
 obtain ⟨⟨z0', z1', z2', z3'⟩, ⟨f0', f1', f2', f3'⟩, zl'⟩ := four HM1.out.hz
 refine hK.out _ _ ⟨⟨p0', p1', p2', p3'⟩, ⟨a0', a1', a2', a3'⟩⟩ (fun hHeld => ?_)
 clear hK K
 try simp only [Act.put]
 try simp only [List.setIfInBounds_toArray]
 try simp only [List.set]
 refine Tail.Lst.mk [11, 12, 13, 14, 15, 16, 17, 18, 19, 20, 21, 22, 23, 24, 25, 26, 27, 28, 29, 30, 31, 32, 33] ?_
 iterate 23 ((first | (refine Tail.Lst.takeH rfl (v := ?_) (Or.inl ⟨by rfl, ?_⟩) ?_; rotate_left; (next => intro w hSw; (try dsimp only at hSw); go_simp; (try with_reducible rfl))) | refine Tail.Lst.takeH rfl (Or.inr ⟨by rfl, rfl⟩) ?_); simp only [Act.put, List.getElem_toArray, List.getElem_cons_succ, List.getElem_cons_zero, List.setIfInBounds_toArray, List.set])
 refine Tail.Lst.nil ?_
 refine wpAnyH_ready (rs := [34]) (by kernel_rfl) (by simp) ?_
 refine AllReadyH.cons rfl (fun K hK => ?_) AllReadyH.nil
 go_simp
 refine hK.out _ _ (by first | exact hHeld | exact ⟨⟨by rw [set_keep (by omega)]; exact p0', by rw [set_keep (by omega)]; exact p1', by rw [set_keep (by omega)]; exact p2', by rw [set_keep (by omega)]; exact p3'⟩, ⟨by rw [set_keep (by omega)]; exact a0', by rw [set_keep (by omega)]; exact a1', by rw [set_keep (by omega)]; exact a2', by rw [set_keep (by omega)]; exact a3'⟩⟩) (fun hHeld => ?_)
 clear hK K
 try simp only [Act.put]
 try simp only [List.setIfInBounds_toArray]
 try simp only [List.set]
 refine wpAnyH_ready (rs := [35]) (by kernel_rfl) (by simp) ?_
 refine AllReadyH.cons rfl (fun K hK => ?_) AllReadyH.nil
 go_simp
 refine hK.out _ _ (by first | exact hHeld | exact ⟨⟨by rw [set_keep (by omega)]; exact p0', by rw [set_keep (by omega)]; exact p1', by rw [set_keep (by omega)]; exact p2', by rw [set_keep (by omega)]; exact p3'⟩, ⟨by rw [set_keep (by omega)]; exact a0', by rw [set_keep (by omega)]; exact a1', by rw [set_keep (by omega)]; exact a2', by rw [set_keep (by omega)]; exact a3'⟩⟩) (fun hHeld => ?_)
 clear hK K
 try simp only [Act.put]
 try simp only [List.setIfInBounds_toArray]
 try simp only [List.set]
 refine wpAnyH_done (by kernel_rfl) ?_ _
 go_wp2_with fail
 exact back_end (Tryz.results15) rfl rfl rfl rfl rfl (HM1.out.done ⟨d, r0, r1, r2⟩)
theorem back_match1 (d n : Int) (b : Nat) (hv r0 r1 r2 r3 : Int) (w : World) (hb0 : ((b : Int) != 0) = false) (c1 : decide (1 <= d) = true) (c2 : decide (d <= hv) = false) :
  Calls Tryz.prog 15 #[.agg #[.int .i64 2, .int .i64 d, .int .i64 n, .int .u8 b], .int .i64 hv, .agg #[.int .i64 r0, .int .i64 r1, .int .i64 r2, .int .i64 r3]] w (BackTo w d n ⟨d, r0, r1, r2⟩ false) := by
 go_enter Tryz.func15, Tryz.ntmps15
 go_upto_region 1 with (fail)
 obtain ⟨q0, q1, q2, hb, hl⟩ := three_alloc w (.cells #[.int .i64 2, .int .i64 d, .int .i64 n, .int .u8 b] 48) (.cells #[.int .i64 r0, .int .i64 r1, .int .i64 r2, .int .i64 r3] 50) (.cells #[.int .i64 0, .int .i64 0, .int .i64 0, .int .i64 0] 50)
 generalize ((w.alloc (.cells #[.int .i64 2, .int .i64 d, .int .i64 n, .int .u8 b] 48)).alloc (.cells #[.int .i64 r0, .int .i64 r1, .int .i64 r2, .int .i64 r3] 50)).alloc (.cells #[.int .i64 0, .int .i64 0, .int .i64 0, .int .i64 0] 50) = W at *
 have HM := hid (show MemB w W w.heap.size 2 d n b r0 r1 r2 r3 from ⟨hb, rfl, q0, q1, q2⟩)
 clear hb q0 q1 q2 hl
 generalize w.heap.size = X at *
 obtain ⟨⟨p0, p1, p2, p3⟩, _, pl⟩ := four HM.out.hp
 obtain ⟨⟨a0, a1, a2, a3⟩, _, al⟩ := four HM.out.hr
 obtain ⟨⟨z0, z1, z2, z3⟩, ⟨f0, f1, f2, f3⟩, zl⟩ := four HM.out.hz
 go_upto_region 5 with (fail)
 refine wp_region_held_drew (S := fun W => (W.cell? ⟨X, 0, none⟩ = some (.int .i64 2) /\ W.cell? ⟨X, 1, none⟩ = some (.int .i64 d) /\ W.cell? ⟨X, 2, none⟩ = some (.int .i64 n) /\ W.cell? ⟨X, 3, none⟩ = some (.int .u8 b)) /\ (W.cell? ⟨X + 1, 0, none⟩ = some (.int .i64 r0) /\ W.cell? ⟨X + 1, 1, none⟩ = some (.int .i64 r1) /\ W.cell? ⟨X + 1, 2, none⟩ = some (.int .i64 r2) /\ W.cell? ⟨X + 1, 3, none⟩ = some (.int .i64 r3))) (by kernel_rfl) ⟨⟨p0, p1, p2, p3⟩, ⟨a0, a1, a2, a3⟩⟩ (fun hHeld => ?_)
 refine Tail.Lst.mk [0, 1, 2, 3, 4, 5, 6, 8, 9, 10] ?_
 iterate 10 (refine Tail.Lst.takeH rfl (v := ?_) (Or.inl ⟨by rfl, ?_⟩) ?_; rotate_left; (next => intro w hSw; (try dsimp only at hSw); go_simp; (try with_reducible rfl)); simp only [Act.put, List.getElem_toArray, List.getElem_cons_succ, List.getElem_cons_zero, List.setIfInBounds_toArray, List.set])
 refine Tail.Lst.nil ?_
 refine wpAnyH_ready (rs := [7]) (by kernel_rfl) (by simp) ?_
 refine AllReadyH.cons rfl (fun K hK => ?_) AllReadyH.nil
 go_simp
 refine (show Calls Tryz.prog 33 #[.agg #[.int .i64 r0, .int .i64 r1, .int .i64 r2, .int .i64 r3], .int .i64 d] W.drew fun x w' => x = .returned (.agg #[.int .i64 d, .int .i64 r0, .int .i64 r1, .int .i64 r2]) /\ Below W.drew.heap.size W.drew w' from rpush_any ⟨r0, r1, r2, r3⟩ d W.drew).mono ?_
 rintro y w1 ⟨rfl, hb1⟩
 have HM1 := hid (HM.out.drew.next hb1)
 obtain ⟨⟨p0', p1', p2', p3'⟩, _, pl'⟩ := four HM1.out.hp
 obtain ⟨⟨a0', a1', a2', a3'⟩, _, al'⟩ := four HM1.out.hr
 obtain ⟨⟨z0', z1', z2', z3'⟩, ⟨f0', f1', f2', f3'⟩, zl'⟩ := four HM1.out.hz
 refine hK.out _ _ ⟨⟨p0', p1', p2', p3'⟩, ⟨a0', a1', a2', a3'⟩⟩ (fun hHeld => ?_)
 clear hK K
 try simp only [Act.put]
 try simp only [List.setIfInBounds_toArray]
 try simp only [List.set]
 refine Tail.Lst.mk [11, 12, 13, 14, 15, 16, 17, 18, 19, 20, 21, 22, 23, 24, 25, 26, 27, 28, 29, 30, 31, 32, 33] ?_
 iterate 23 ((first | (refine Tail.Lst.takeH rfl (v := ?_) (Or.inl ⟨by rfl, ?_⟩) ?_; rotate_left; (next => intro w hSw; (try dsimp only at hSw); go_simp; (try with_reducible rfl))) | refine Tail.Lst.takeH rfl (Or.inr ⟨by rfl, rfl⟩) ?_); simp only [Act.put, List.getElem_toArray, List.getElem_cons_succ, List.getElem_cons_zero, List.setIfInBounds_toArray, List.set])
 refine Tail.Lst.nil ?_
 refine wpAnyH_ready (rs := [34]) (by kernel_rfl) (by simp) ?_
 refine AllReadyH.cons rfl (fun K hK => ?_) AllReadyH.nil
 go_simp
 refine hK.out _ _ (by first | exact hHeld | exact ⟨⟨by rw [set_keep (by omega)]; exact p0', by rw [set_keep (by omega)]; exact p1', by rw [set_keep (by omega)]; exact p2', by rw [set_keep (by omega)]; exact p3'⟩, ⟨by rw [set_keep (by omega)]; exact a0', by rw [set_keep (by omega)]; exact a1', by rw [set_keep (by omega)]; exact a2', by rw [set_keep (by omega)]; exact a3'⟩⟩) (fun hHeld => ?_)
 clear hK K
 try simp only [Act.put]
 try simp only [List.setIfInBounds_toArray]
 try simp only [List.set]
 refine wpAnyH_ready (rs := [35]) (by kernel_rfl) (by simp) ?_
 refine AllReadyH.cons rfl (fun K hK => ?_) AllReadyH.nil
 go_simp
 refine hK.out _ _ (by first | exact hHeld | exact ⟨⟨by rw [set_keep (by omega)]; exact p0', by rw [set_keep (by omega)]; exact p1', by rw [set_keep (by omega)]; exact p2', by rw [set_keep (by omega)]; exact p3'⟩, ⟨by rw [set_keep (by omega)]; exact a0', by rw [set_keep (by omega)]; exact a1', by rw [set_keep (by omega)]; exact a2', by rw [set_keep (by omega)]; exact a3'⟩⟩) (fun hHeld => ?_)
 clear hK K
 try simp only [Act.put]
 try simp only [List.setIfInBounds_toArray]
 try simp only [List.set]
 refine wpAnyH_done (by kernel_rfl) ?_ _
 go_wp2_with fail
 exact back_end (Tryz.results15) rfl rfl rfl rfl rfl (HM1.out.done ⟨d, r0, r1, r2⟩)
end Go.Proofs.YtfpoabeihpfeiaaGreat.Pk
end
section
namespace Go.Proofs.YtfpoabeihpfeiaaGreat.Pk
open Go.RowKit
theorem back_match2 (d n : Int) (b : Nat) (hv r0 r1 r2 r3 : Int) (w : World) (hb0 : ((b : Int) != 0) = false) (c1 : decide (1 <= d) = true) (c2 : decide (d <= hv) = true) (c3 : decide (d <= 1048576) = false) :
  Calls Tryz.prog 15 #[.agg #[.int .i64 2, .int .i64 d, .int .i64 n, .int .u8 b], .int .i64 hv, .agg #[.int .i64 r0, .int .i64 r1, .int .i64 r2, .int .i64 r3]] w (BackTo w d n ⟨d, r0, r1, r2⟩ false) := by
 go_enter Tryz.func15, Tryz.ntmps15
 go_upto_region 1 with (fail)
 obtain ⟨q0, q1, q2, hb, hl⟩ := three_alloc w (.cells #[.int .i64 2, .int .i64 d, .int .i64 n, .int .u8 b] 48) (.cells #[.int .i64 r0, .int .i64 r1, .int .i64 r2, .int .i64 r3] 50) (.cells #[.int .i64 0, .int .i64 0, .int .i64 0, .int .i64 0] 50)
 generalize ((w.alloc (.cells #[.int .i64 2, .int .i64 d, .int .i64 n, .int .u8 b] 48)).alloc (.cells #[.int .i64 r0, .int .i64 r1, .int .i64 r2, .int .i64 r3] 50)).alloc (.cells #[.int .i64 0, .int .i64 0, .int .i64 0, .int .i64 0] 50) = W at *
 have HM := hid (show MemB w W w.heap.size 2 d n b r0 r1 r2 r3 from ⟨hb, rfl, q0, q1, q2⟩)
 clear hb q0 q1 q2 hl
 generalize w.heap.size = X at *
 obtain ⟨⟨p0, p1, p2, p3⟩, _, pl⟩ := four HM.out.hp
 obtain ⟨⟨a0, a1, a2, a3⟩, _, al⟩ := four HM.out.hr
 obtain ⟨⟨z0, z1, z2, z3⟩, ⟨f0, f1, f2, f3⟩, zl⟩ := four HM.out.hz
 go_upto_region 5 with (fail)
 refine wp_region_held_drew (S := fun W => (W.cell? ⟨X, 0, none⟩ = some (.int .i64 2) /\ W.cell? ⟨X, 1, none⟩ = some (.int .i64 d) /\ W.cell? ⟨X, 2, none⟩ = some (.int .i64 n) /\ W.cell? ⟨X, 3, none⟩ = some (.int .u8 b)) /\ (W.cell? ⟨X + 1, 0, none⟩ = some (.int .i64 r0) /\ W.cell? ⟨X + 1, 1, none⟩ = some (.int .i64 r1) /\ W.cell? ⟨X + 1, 2, none⟩ = some (.int .i64 r2) /\ W.cell? ⟨X + 1, 3, none⟩ = some (.int .i64 r3))) (by kernel_rfl) ⟨⟨p0, p1, p2, p3⟩, ⟨a0, a1, a2, a3⟩⟩ (fun hHeld => ?_)
 refine Tail.Lst.mk [0, 1, 2, 3, 4, 5, 6, 8, 9, 10] ?_
 iterate 10 (refine Tail.Lst.takeH rfl (v := ?_) (Or.inl ⟨by rfl, ?_⟩) ?_; rotate_left; (next => intro w hSw; (try dsimp only at hSw); go_simp; (try with_reducible rfl)); simp only [Act.put, List.getElem_toArray, List.getElem_cons_succ, List.getElem_cons_zero, List.setIfInBounds_toArray, List.set])
 refine Tail.Lst.nil ?_
 refine wpAnyH_ready (rs := [7]) (by kernel_rfl) (by simp) ?_
 refine AllReadyH.cons rfl (fun K hK => ?_) AllReadyH.nil
 go_simp
 refine (show Calls Tryz.prog 33 #[.agg #[.int .i64 r0, .int .i64 r1, .int .i64 r2, .int .i64 r3], .int .i64 d] W.drew fun x w' => x = .returned (.agg #[.int .i64 d, .int .i64 r0, .int .i64 r1, .int .i64 r2]) /\ Below W.drew.heap.size W.drew w' from rpush_any ⟨r0, r1, r2, r3⟩ d W.drew).mono ?_
 rintro y w1 ⟨rfl, hb1⟩
 have HM1 := hid (HM.out.drew.next hb1)
 obtain ⟨⟨p0', p1', p2', p3'⟩, _, pl'⟩ := four HM1.out.hp
 obtain ⟨⟨a0', a1', a2', a3'⟩, _, al'⟩ := four HM1.out.hr
 obtain ⟨⟨z0', z1', z2', z3'⟩, ⟨f0', f1', f2', f3'⟩, zl'⟩ := four HM1.out.hz
 refine hK.out _ _ ⟨⟨p0', p1', p2', p3'⟩, ⟨a0', a1', a2', a3'⟩⟩ (fun hHeld => ?_)
 clear hK K
 try simp only [Act.put]
 try simp only [List.setIfInBounds_toArray]
 try simp only [List.set]
 refine Tail.Lst.mk [11, 12, 13, 14, 15, 16, 17, 18, 19, 20, 21, 22, 23, 24, 25, 26, 27, 28, 29, 30, 31, 32, 33] ?_
 iterate 23 ((first | (refine Tail.Lst.takeH rfl (v := ?_) (Or.inl ⟨by rfl, ?_⟩) ?_; rotate_left; (next => intro w hSw; (try dsimp only at hSw); go_simp; (try with_reducible rfl))) | refine Tail.Lst.takeH rfl (Or.inr ⟨by rfl, rfl⟩) ?_); simp only [Act.put, List.getElem_toArray, List.getElem_cons_succ, List.getElem_cons_zero, List.setIfInBounds_toArray, List.set])
 refine Tail.Lst.nil ?_
 refine wpAnyH_ready (rs := [34]) (by kernel_rfl) (by simp) ?_
 refine AllReadyH.cons rfl (fun K hK => ?_) AllReadyH.nil
 go_simp
 refine hK.out _ _ (by first | exact hHeld | exact ⟨⟨by rw [set_keep (by omega)]; exact p0', by rw [set_keep (by omega)]; exact p1', by rw [set_keep (by omega)]; exact p2', by rw [set_keep (by omega)]; exact p3'⟩, ⟨by rw [set_keep (by omega)]; exact a0', by rw [set_keep (by omega)]; exact a1', by rw [set_keep (by omega)]; exact a2', by rw [set_keep (by omega)]; exact a3'⟩⟩) (fun hHeld => ?_)
 clear hK K
 try simp only [Act.put]
 try simp only [List.setIfInBounds_toArray]
 try simp only [List.set]
 refine wpAnyH_ready (rs := [35]) (by kernel_rfl) (by simp) ?_
 refine AllReadyH.cons rfl (fun K hK => ?_) AllReadyH.nil
 go_simp
 refine hK.out _ _ (by first | exact hHeld | exact ⟨⟨by rw [set_keep (by omega)]; exact p0', by rw [set_keep (by omega)]; exact p1', by rw [set_keep (by omega)]; exact p2', by rw [set_keep (by omega)]; exact p3'⟩, ⟨by rw [set_keep (by omega)]; exact a0', by rw [set_keep (by omega)]; exact a1', by rw [set_keep (by omega)]; exact a2', by rw [set_keep (by omega)]; exact a3'⟩⟩) (fun hHeld => ?_)
 clear hK K
 try simp only [Act.put]
 try simp only [List.setIfInBounds_toArray]
 try simp only [List.set]
 refine wpAnyH_done (by kernel_rfl) ?_ _
 go_wp2_with fail
 exact back_end (Tryz.results15) rfl rfl rfl rfl rfl (HM1.out.done ⟨d, r0, r1, r2⟩)
theorem back_match3 (d n : Int) (b : Nat) (hv r0 r1 r2 r3 : Int) (w : World) (hb0 : ((b : Int) != 0) = false) (c1 : decide (1 <= d) = true) (c2 : decide (d <= hv) = true) (c3 : decide (d <= 1048576) = true) (c4 : decide (2 <= n) = false) :
  Calls Tryz.prog 15 #[.agg #[.int .i64 2, .int .i64 d, .int .i64 n, .int .u8 b], .int .i64 hv, .agg #[.int .i64 r0, .int .i64 r1, .int .i64 r2, .int .i64 r3]] w (BackTo w d n ⟨d, r0, r1, r2⟩ false) := by
 go_enter Tryz.func15, Tryz.ntmps15
 go_upto_region 1 with (fail)
 obtain ⟨q0, q1, q2, hb, hl⟩ := three_alloc w (.cells #[.int .i64 2, .int .i64 d, .int .i64 n, .int .u8 b] 48) (.cells #[.int .i64 r0, .int .i64 r1, .int .i64 r2, .int .i64 r3] 50) (.cells #[.int .i64 0, .int .i64 0, .int .i64 0, .int .i64 0] 50)
 generalize ((w.alloc (.cells #[.int .i64 2, .int .i64 d, .int .i64 n, .int .u8 b] 48)).alloc (.cells #[.int .i64 r0, .int .i64 r1, .int .i64 r2, .int .i64 r3] 50)).alloc (.cells #[.int .i64 0, .int .i64 0, .int .i64 0, .int .i64 0] 50) = W at *
 have HM := hid (show MemB w W w.heap.size 2 d n b r0 r1 r2 r3 from ⟨hb, rfl, q0, q1, q2⟩)
 clear hb q0 q1 q2 hl
 generalize w.heap.size = X at *
 obtain ⟨⟨p0, p1, p2, p3⟩, _, pl⟩ := four HM.out.hp
 obtain ⟨⟨a0, a1, a2, a3⟩, _, al⟩ := four HM.out.hr
 obtain ⟨⟨z0, z1, z2, z3⟩, ⟨f0, f1, f2, f3⟩, zl⟩ := four HM.out.hz
 go_upto_region 5 with (fail)
 refine wp_region_held_drew (S := fun W => (W.cell? ⟨X, 0, none⟩ = some (.int .i64 2) /\ W.cell? ⟨X, 1, none⟩ = some (.int .i64 d) /\ W.cell? ⟨X, 2, none⟩ = some (.int .i64 n) /\ W.cell? ⟨X, 3, none⟩ = some (.int .u8 b)) /\ (W.cell? ⟨X + 1, 0, none⟩ = some (.int .i64 r0) /\ W.cell? ⟨X + 1, 1, none⟩ = some (.int .i64 r1) /\ W.cell? ⟨X + 1, 2, none⟩ = some (.int .i64 r2) /\ W.cell? ⟨X + 1, 3, none⟩ = some (.int .i64 r3))) (by kernel_rfl) ⟨⟨p0, p1, p2, p3⟩, ⟨a0, a1, a2, a3⟩⟩ (fun hHeld => ?_)
 refine Tail.Lst.mk [0, 1, 2, 3, 4, 5, 6, 8, 9, 10] ?_
 iterate 10 (refine Tail.Lst.takeH rfl (v := ?_) (Or.inl ⟨by rfl, ?_⟩) ?_; rotate_left; (next => intro w hSw; (try dsimp only at hSw); go_simp; (try with_reducible rfl)); simp only [Act.put, List.getElem_toArray, List.getElem_cons_succ, List.getElem_cons_zero, List.setIfInBounds_toArray, List.set])
 refine Tail.Lst.nil ?_
 refine wpAnyH_ready (rs := [7]) (by kernel_rfl) (by simp) ?_
 refine AllReadyH.cons rfl (fun K hK => ?_) AllReadyH.nil
 go_simp
 refine (show Calls Tryz.prog 33 #[.agg #[.int .i64 r0, .int .i64 r1, .int .i64 r2, .int .i64 r3], .int .i64 d] W.drew fun x w' => x = .returned (.agg #[.int .i64 d, .int .i64 r0, .int .i64 r1, .int .i64 r2]) /\ Below W.drew.heap.size W.drew w' from rpush_any ⟨r0, r1, r2, r3⟩ d W.drew).mono ?_
 rintro y w1 ⟨rfl, hb1⟩
 have HM1 := hid (HM.out.drew.next hb1)
 obtain ⟨⟨p0', p1', p2', p3'⟩, _, pl'⟩ := four HM1.out.hp
 obtain ⟨⟨a0', a1', a2', a3'⟩, _, al'⟩ := four HM1.out.hr
 obtain ⟨⟨z0', z1', z2', z3'⟩, ⟨f0', f1', f2', f3'⟩, zl'⟩ := four HM1.out.hz
 refine hK.out _ _ ⟨⟨p0', p1', p2', p3'⟩, ⟨a0', a1', a2', a3'⟩⟩ (fun hHeld => ?_)
 clear hK K
 try simp only [Act.put]
 try simp only [List.setIfInBounds_toArray]
 try simp only [List.set]
 refine Tail.Lst.mk [11, 12, 13, 14, 15, 16, 17, 18, 19, 20, 21, 22, 23, 24, 25, 26, 27, 28, 29, 30, 31, 32, 33] ?_
 iterate 23 ((first | (refine Tail.Lst.takeH rfl (v := ?_) (Or.inl ⟨by rfl, ?_⟩) ?_; rotate_left; (next => intro w hSw; (try dsimp only at hSw); go_simp; (try with_reducible rfl))) | refine Tail.Lst.takeH rfl (Or.inr ⟨by rfl, rfl⟩) ?_); simp only [Act.put, List.getElem_toArray, List.getElem_cons_succ, List.getElem_cons_zero, List.setIfInBounds_toArray, List.set])
 refine Tail.Lst.nil ?_
 refine wpAnyH_ready (rs := [34]) (by kernel_rfl) (by simp) ?_
 refine AllReadyH.cons rfl (fun K hK => ?_) AllReadyH.nil
 go_simp
 refine hK.out _ _ (by first | exact hHeld | exact ⟨⟨by rw [set_keep (by omega)]; exact p0', by rw [set_keep (by omega)]; exact p1', by rw [set_keep (by omega)]; exact p2', by rw [set_keep (by omega)]; exact p3'⟩, ⟨by rw [set_keep (by omega)]; exact a0', by rw [set_keep (by omega)]; exact a1', by rw [set_keep (by omega)]; exact a2', by rw [set_keep (by omega)]; exact a3'⟩⟩) (fun hHeld => ?_)
 clear hK K
 try simp only [Act.put]
 try simp only [List.setIfInBounds_toArray]
 try simp only [List.set]
 refine wpAnyH_ready (rs := [35]) (by kernel_rfl) (by simp) ?_
 refine AllReadyH.cons rfl (fun K hK => ?_) AllReadyH.nil
 go_simp
 refine hK.out _ _ (by first | exact hHeld | exact ⟨⟨by rw [set_keep (by omega)]; exact p0', by rw [set_keep (by omega)]; exact p1', by rw [set_keep (by omega)]; exact p2', by rw [set_keep (by omega)]; exact p3'⟩, ⟨by rw [set_keep (by omega)]; exact a0', by rw [set_keep (by omega)]; exact a1', by rw [set_keep (by omega)]; exact a2', by rw [set_keep (by omega)]; exact a3'⟩⟩) (fun hHeld => ?_)
 clear hK K
 try simp only [Act.put]
 try simp only [List.setIfInBounds_toArray]
 try simp only [List.set]
 refine wpAnyH_done (by kernel_rfl) ?_ _
 go_wp2_with fail
 exact back_end (Tryz.results15) rfl rfl rfl rfl rfl (HM1.out.done ⟨d, r0, r1, r2⟩)
end Go.Proofs.YtfpoabeihpfeiaaGreat.Pk
end
section
namespace Go.Proofs.YtfpoabeihpfeiaaGreat.Pk
open Go.RowKit
theorem back_match4 (d n : Int) (b : Nat) (hv r0 r1 r2 r3 : Int) (w : World) (hb0 : ((b : Int) != 0) = false) (c1 : decide (1 <= d) = true) (c2 : decide (d <= hv) = true) (c3 : decide (d <= 1048576) = true) (c4 : decide (2 <= n) = true) (c5 : decide (n <= 273) = false) :
  Calls Tryz.prog 15 #[.agg #[.int .i64 2, .int .i64 d, .int .i64 n, .int .u8 b], .int .i64 hv, .agg #[.int .i64 r0, .int .i64 r1, .int .i64 r2, .int .i64 r3]] w (BackTo w d n ⟨d, r0, r1, r2⟩ false) := by
 go_enter Tryz.func15, Tryz.ntmps15
 go_upto_region 1 with (fail)
 obtain ⟨q0, q1, q2, hb, hl⟩ := three_alloc w (.cells #[.int .i64 2, .int .i64 d, .int .i64 n, .int .u8 b] 48) (.cells #[.int .i64 r0, .int .i64 r1, .int .i64 r2, .int .i64 r3] 50) (.cells #[.int .i64 0, .int .i64 0, .int .i64 0, .int .i64 0] 50)
 generalize ((w.alloc (.cells #[.int .i64 2, .int .i64 d, .int .i64 n, .int .u8 b] 48)).alloc (.cells #[.int .i64 r0, .int .i64 r1, .int .i64 r2, .int .i64 r3] 50)).alloc (.cells #[.int .i64 0, .int .i64 0, .int .i64 0, .int .i64 0] 50) = W at *
 have HM := hid (show MemB w W w.heap.size 2 d n b r0 r1 r2 r3 from ⟨hb, rfl, q0, q1, q2⟩)
 clear hb q0 q1 q2 hl
 generalize w.heap.size = X at *
 obtain ⟨⟨p0, p1, p2, p3⟩, _, pl⟩ := four HM.out.hp
 obtain ⟨⟨a0, a1, a2, a3⟩, _, al⟩ := four HM.out.hr
 obtain ⟨⟨z0, z1, z2, z3⟩, ⟨f0, f1, f2, f3⟩, zl⟩ := four HM.out.hz
 go_upto_region 5 with (fail)
 refine wp_region_held_drew (S := fun W => (W.cell? ⟨X, 0, none⟩ = some (.int .i64 2) /\ W.cell? ⟨X, 1, none⟩ = some (.int .i64 d) /\ W.cell? ⟨X, 2, none⟩ = some (.int .i64 n) /\ W.cell? ⟨X, 3, none⟩ = some (.int .u8 b)) /\ (W.cell? ⟨X + 1, 0, none⟩ = some (.int .i64 r0) /\ W.cell? ⟨X + 1, 1, none⟩ = some (.int .i64 r1) /\ W.cell? ⟨X + 1, 2, none⟩ = some (.int .i64 r2) /\ W.cell? ⟨X + 1, 3, none⟩ = some (.int .i64 r3))) (by kernel_rfl) ⟨⟨p0, p1, p2, p3⟩, ⟨a0, a1, a2, a3⟩⟩ (fun hHeld => ?_)
 refine Tail.Lst.mk [0, 1, 2, 3, 4, 5, 6, 8, 9, 10] ?_
 iterate 10 (refine Tail.Lst.takeH rfl (v := ?_) (Or.inl ⟨by rfl, ?_⟩) ?_; rotate_left; (next => intro w hSw; (try dsimp only at hSw); go_simp; (try with_reducible rfl)); simp only [Act.put, List.getElem_toArray, List.getElem_cons_succ, List.getElem_cons_zero, List.setIfInBounds_toArray, List.set])
 refine Tail.Lst.nil ?_
 refine wpAnyH_ready (rs := [7]) (by kernel_rfl) (by simp) ?_
 refine AllReadyH.cons rfl (fun K hK => ?_) AllReadyH.nil
 go_simp
 refine (show Calls Tryz.prog 33 #[.agg #[.int .i64 r0, .int .i64 r1, .int .i64 r2, .int .i64 r3], .int .i64 d] W.drew fun x w' => x = .returned (.agg #[.int .i64 d, .int .i64 r0, .int .i64 r1, .int .i64 r2]) /\ Below W.drew.heap.size W.drew w' from rpush_any ⟨r0, r1, r2, r3⟩ d W.drew).mono ?_
 rintro y w1 ⟨rfl, hb1⟩
 have HM1 := hid (HM.out.drew.next hb1)
 obtain ⟨⟨p0', p1', p2', p3'⟩, _, pl'⟩ := four HM1.out.hp
 obtain ⟨⟨a0', a1', a2', a3'⟩, _, al'⟩ := four HM1.out.hr
 obtain ⟨⟨z0', z1', z2', z3'⟩, ⟨f0', f1', f2', f3'⟩, zl'⟩ := four HM1.out.hz
 refine hK.out _ _ ⟨⟨p0', p1', p2', p3'⟩, ⟨a0', a1', a2', a3'⟩⟩ (fun hHeld => ?_)
 clear hK K
 try simp only [Act.put]
 try simp only [List.setIfInBounds_toArray]
 try simp only [List.set]
 refine Tail.Lst.mk [11, 12, 13, 14, 15, 16, 17, 18, 19, 20, 21, 22, 23, 24, 25, 26, 27, 28, 29, 30, 31, 32, 33] ?_
 iterate 23 (refine Tail.Lst.takeH rfl (v := ?_) (Or.inl ⟨by rfl, ?_⟩) ?_; rotate_left; (next => intro w hSw; (try dsimp only at hSw); go_simp; (try with_reducible rfl)); simp only [Act.put, List.getElem_toArray, List.getElem_cons_succ, List.getElem_cons_zero, List.setIfInBounds_toArray, List.set])
 refine Tail.Lst.nil ?_
 refine wpAnyH_ready (rs := [34]) (by kernel_rfl) (by simp) ?_
 refine AllReadyH.cons rfl (fun K hK => ?_) AllReadyH.nil
 go_simp
 refine hK.out _ _ (by first | exact hHeld | exact ⟨⟨by rw [set_keep (by omega)]; exact p0', by rw [set_keep (by omega)]; exact p1', by rw [set_keep (by omega)]; exact p2', by rw [set_keep (by omega)]; exact p3'⟩, ⟨by rw [set_keep (by omega)]; exact a0', by rw [set_keep (by omega)]; exact a1', by rw [set_keep (by omega)]; exact a2', by rw [set_keep (by omega)]; exact a3'⟩⟩) (fun hHeld => ?_)
 clear hK K
 try simp only [Act.put]
 try simp only [List.setIfInBounds_toArray]
 try simp only [List.set]
 refine wpAnyH_ready (rs := [35]) (by kernel_rfl) (by simp) ?_
 refine AllReadyH.cons rfl (fun K hK => ?_) AllReadyH.nil
 go_simp
 refine hK.out _ _ (by first | exact hHeld | exact ⟨⟨by rw [set_keep (by omega)]; exact p0', by rw [set_keep (by omega)]; exact p1', by rw [set_keep (by omega)]; exact p2', by rw [set_keep (by omega)]; exact p3'⟩, ⟨by rw [set_keep (by omega)]; exact a0', by rw [set_keep (by omega)]; exact a1', by rw [set_keep (by omega)]; exact a2', by rw [set_keep (by omega)]; exact a3'⟩⟩) (fun hHeld => ?_)
 clear hK K
 try simp only [Act.put]
 try simp only [List.setIfInBounds_toArray]
 try simp only [List.set]
 refine wpAnyH_done (by kernel_rfl) ?_ _
 go_wp2_with fail
 exact back_end (Tryz.results15) rfl rfl rfl rfl rfl (HM1.out.done ⟨d, r0, r1, r2⟩)
theorem back_match5 (d n : Int) (b : Nat) (hv r0 r1 r2 r3 : Int) (w : World) (hb0 : ((b : Int) != 0) = false) (c1 : decide (1 <= d) = true) (c2 : decide (d <= hv) = true) (c3 : decide (d <= 1048576) = true) (c4 : decide (2 <= n) = true) (c5 : decide (n <= 273) = true) :
  Calls Tryz.prog 15 #[.agg #[.int .i64 2, .int .i64 d, .int .i64 n, .int .u8 b], .int .i64 hv, .agg #[.int .i64 r0, .int .i64 r1, .int .i64 r2, .int .i64 r3]] w (BackTo w d n ⟨d, r0, r1, r2⟩ true) := by
 go_enter Tryz.func15, Tryz.ntmps15
 go_upto_region 1 with (fail)
 obtain ⟨q0, q1, q2, hb, hl⟩ := three_alloc w (.cells #[.int .i64 2, .int .i64 d, .int .i64 n, .int .u8 b] 48) (.cells #[.int .i64 r0, .int .i64 r1, .int .i64 r2, .int .i64 r3] 50) (.cells #[.int .i64 0, .int .i64 0, .int .i64 0, .int .i64 0] 50)
 generalize ((w.alloc (.cells #[.int .i64 2, .int .i64 d, .int .i64 n, .int .u8 b] 48)).alloc (.cells #[.int .i64 r0, .int .i64 r1, .int .i64 r2, .int .i64 r3] 50)).alloc (.cells #[.int .i64 0, .int .i64 0, .int .i64 0, .int .i64 0] 50) = W at *
 have HM := hid (show MemB w W w.heap.size 2 d n b r0 r1 r2 r3 from ⟨hb, rfl, q0, q1, q2⟩)
 clear hb q0 q1 q2 hl
 generalize w.heap.size = X at *
 obtain ⟨⟨p0, p1, p2, p3⟩, _, pl⟩ := four HM.out.hp
 obtain ⟨⟨a0, a1, a2, a3⟩, _, al⟩ := four HM.out.hr
 obtain ⟨⟨z0, z1, z2, z3⟩, ⟨f0, f1, f2, f3⟩, zl⟩ := four HM.out.hz
 go_upto_region 5 with (fail)
 refine wp_region_held_drew (S := fun W => (W.cell? ⟨X, 0, none⟩ = some (.int .i64 2) /\ W.cell? ⟨X, 1, none⟩ = some (.int .i64 d) /\ W.cell? ⟨X, 2, none⟩ = some (.int .i64 n) /\ W.cell? ⟨X, 3, none⟩ = some (.int .u8 b)) /\ (W.cell? ⟨X + 1, 0, none⟩ = some (.int .i64 r0) /\ W.cell? ⟨X + 1, 1, none⟩ = some (.int .i64 r1) /\ W.cell? ⟨X + 1, 2, none⟩ = some (.int .i64 r2) /\ W.cell? ⟨X + 1, 3, none⟩ = some (.int .i64 r3))) (by kernel_rfl) ⟨⟨p0, p1, p2, p3⟩, ⟨a0, a1, a2, a3⟩⟩ (fun hHeld => ?_)
 refine Tail.Lst.mk [0, 1, 2, 3, 4, 5, 6, 8, 9, 10] ?_
 iterate 10 (refine Tail.Lst.takeH rfl (v := ?_) (Or.inl ⟨by rfl, ?_⟩) ?_; rotate_left; (next => intro w hSw; (try dsimp only at hSw); go_simp; (try with_reducible rfl)); simp only [Act.put, List.getElem_toArray, List.getElem_cons_succ, List.getElem_cons_zero, List.setIfInBounds_toArray, List.set])
 refine Tail.Lst.nil ?_
 refine wpAnyH_ready (rs := [7]) (by kernel_rfl) (by simp) ?_
 refine AllReadyH.cons rfl (fun K hK => ?_) AllReadyH.nil
 go_simp
 refine (show Calls Tryz.prog 33 #[.agg #[.int .i64 r0, .int .i64 r1, .int .i64 r2, .int .i64 r3], .int .i64 d] W.drew fun x w' => x = .returned (.agg #[.int .i64 d, .int .i64 r0, .int .i64 r1, .int .i64 r2]) /\ Below W.drew.heap.size W.drew w' from rpush_any ⟨r0, r1, r2, r3⟩ d W.drew).mono ?_
 rintro y w1 ⟨rfl, hb1⟩
 have HM1 := hid (HM.out.drew.next hb1)
 obtain ⟨⟨p0', p1', p2', p3'⟩, _, pl'⟩ := four HM1.out.hp
 obtain ⟨⟨a0', a1', a2', a3'⟩, _, al'⟩ := four HM1.out.hr
 obtain ⟨⟨z0', z1', z2', z3'⟩, ⟨f0', f1', f2', f3'⟩, zl'⟩ := four HM1.out.hz
 refine hK.out _ _ ⟨⟨p0', p1', p2', p3'⟩, ⟨a0', a1', a2', a3'⟩⟩ (fun hHeld => ?_)
 clear hK K
 try simp only [Act.put]
 try simp only [List.setIfInBounds_toArray]
 try simp only [List.set]
 refine Tail.Lst.mk [11, 12, 13, 14, 15, 16, 17, 18, 19, 20, 21, 22, 23, 24, 25, 26, 27, 28, 29, 30, 31, 32, 33] ?_
 iterate 23 (refine Tail.Lst.takeH rfl (v := ?_) (Or.inl ⟨by rfl, ?_⟩) ?_; rotate_left; (next => intro w hSw; (try dsimp only at hSw); go_simp; (try with_reducible rfl)); simp only [Act.put, List.getElem_toArray, List.getElem_cons_succ, List.getElem_cons_zero, List.setIfInBounds_toArray, List.set])
 refine Tail.Lst.nil ?_
 refine wpAnyH_ready (rs := [34]) (by kernel_rfl) (by simp) ?_
 refine AllReadyH.cons rfl (fun K hK => ?_) AllReadyH.nil
 go_simp
 refine hK.out _ _ (by first | exact hHeld | exact ⟨⟨by rw [set_keep (by omega)]; exact p0', by rw [set_keep (by omega)]; exact p1', by rw [set_keep (by omega)]; exact p2', by rw [set_keep (by omega)]; exact p3'⟩, ⟨by rw [set_keep (by omega)]; exact a0', by rw [set_keep (by omega)]; exact a1', by rw [set_keep (by omega)]; exact a2', by rw [set_keep (by omega)]; exact a3'⟩⟩) (fun hHeld => ?_)
 clear hK K
 try simp only [Act.put]
 try simp only [List.setIfInBounds_toArray]
 try simp only [List.set]
 refine wpAnyH_ready (rs := [35]) (by kernel_rfl) (by simp) ?_
 refine AllReadyH.cons rfl (fun K hK => ?_) AllReadyH.nil
 go_simp
 refine hK.out _ _ (by first | exact hHeld | exact ⟨⟨by rw [set_keep (by omega)]; exact p0', by rw [set_keep (by omega)]; exact p1', by rw [set_keep (by omega)]; exact p2', by rw [set_keep (by omega)]; exact p3'⟩, ⟨by rw [set_keep (by omega)]; exact a0', by rw [set_keep (by omega)]; exact a1', by rw [set_keep (by omega)]; exact a2', by rw [set_keep (by omega)]; exact a3'⟩⟩) (fun hHeld => ?_)
 clear hK K
 try simp only [Act.put]
 try simp only [List.setIfInBounds_toArray]
 try simp only [List.set]
 refine wpAnyH_done (by kernel_rfl) ?_ _
 go_wp2_with fail
 exact back_end (Tryz.results15) rfl rfl rfl rfl rfl (HM1.out.done ⟨d, r0, r1, r2⟩)
end Go.Proofs.YtfpoabeihpfeiaaGreat.Pk
end
