/-
  The reference of layer 6: contract of Back, case by case (by gen_back.py): some cases.
-/
import Derived.Test.YthdjnbhdgacmgaaPackBack
import Derived.BigRegion
namespace Go.Proofs.Ythdjnbhdgacmgaa.Pk
open Go.RowKit
set_option maxRecDepth 100000 in
set_option maxHeartbeats 4000000 in
theorem back_rep0 (d n : Int) (b : Nat) (hv r0 r1 r2 r3 : Int) (w : World) (hb0 : ((b : Int) != 0) = false) (hd0 : 0 ≤ d) (hd4 : d < 4) (rd : Int) (hrd : (⟨r0, r1, r2, r3⟩ : Rp).at d = rd) (sf : Rp) (hsf : (⟨r0, r1, r2, r3⟩ : Rp).front d = sf) (c1 : decide (rd ≤ hv) = false) :
    Calls Try.prog 35 #[.agg #[.int .i64 3, .int .i64 d, .int .i64 n, .int .u8 (b : Int)], .int .i64 hv, .agg #[.int .i64 r0, .int .i64 r1, .int .i64 r2, .int .i64 r3]] w (BackTo w rd n sf false) := by
  go_enter Try.func35, Try.ntmps35
  go_upto_region 1 with (fail)
  obtain ⟨q0, q1, q2, hb, hl⟩ := three_alloc w (.cells #[.int .i64 3, .int .i64 d, .int .i64 n, .int .u8 (b : Int)] 51) (.cells #[.int .i64 r0, .int .i64 r1, .int .i64 r2, .int .i64 r3] 68) (.cells #[.int .i64 0, .int .i64 0, .int .i64 0, .int .i64 0] 68)
  generalize ((w.alloc (.cells #[.int .i64 3, .int .i64 d, .int .i64 n, .int .u8 (b : Int)] 51)).alloc (.cells #[.int .i64 r0, .int .i64 r1, .int .i64 r2, .int .i64 r3] 68)).alloc (.cells #[.int .i64 0, .int .i64 0, .int .i64 0, .int .i64 0] 68) = W at *
  have HM := Lib.hid (show MemB w W w.heap.size 3 d n b r0 r1 r2 r3 from ⟨hb, rfl, q0, q1, q2⟩)
  clear hb q0 q1 q2 hl
  generalize w.heap.size = X at *
  obtain ⟨⟨p0, p1, p2, p3⟩, _, pl⟩ := four HM.out.hp
  obtain ⟨⟨a0, a1, a2, a3⟩, _, al⟩ := four HM.out.hr
  obtain ⟨⟨z0, z1, z2, z3⟩, ⟨f0, f1, f2, f3⟩, zl⟩ := four HM.out.hz
  go_upto_region 9 with (fail)
  have HRD := Lib.hid hrd
  have HSF := Lib.hid hsf
  clear hrd hsf
  have ex0 : W.drew.cell? ⟨X + 1, d.toNat, none⟩ = some (.int .i64 rd) := by rw [← HRD.out]; exact at_cell HM.out.drew.hr hd0 hd4
  refine wp_region_held_drew (S := fun W => (W.cell? ⟨X, 0, none⟩ = some (.int .i64 3) ∧ W.cell? ⟨X, 1, none⟩ = some (.int .i64 d) ∧ W.cell? ⟨X, 2, none⟩ = some (.int .i64 n) ∧ W.cell? ⟨X, 3, none⟩ = some (.int .u8 (b : Int))) ∧ (W.cell? ⟨X + 1, 0, none⟩ = some (.int .i64 r0) ∧ W.cell? ⟨X + 1, 1, none⟩ = some (.int .i64 r1) ∧ W.cell? ⟨X + 1, 2, none⟩ = some (.int .i64 r2) ∧ W.cell? ⟨X + 1, 3, none⟩ = some (.int .i64 r3)) ∧ W.cell? ⟨X + 1, d.toNat, none⟩ = some (.int .i64 rd)) (by kernel_rfl) ⟨⟨p0, p1, p2, p3⟩, ⟨a0, a1, a2, a3⟩, ex0⟩ (fun hHeld => ?_)
  refine wpAnyH_take (i := 0) (v := ?tv1) rfl (by kernel_rfl) (by kernel_rfl) (by kernel_rfl) (fun _ _ _ h => h) (Or.inl ⟨by rfl, ?th1⟩) (by assumption) ?tr1
  case th1 => (intro w hSw; (try dsimp only at hSw); go_simp; (try with_reducible rfl))
  simp only [Act.put, List.getElem_toArray, List.getElem_cons_zero]
  simp only [List.setIfInBounds_toArray]
  simp only [List.set]
  refine wpAnyH_take (i := 1) (v := ?tv2) rfl (by kernel_rfl) (by kernel_rfl) (by kernel_rfl) (fun _ _ _ h => h) (Or.inl ⟨by rfl, ?th2⟩) (by assumption) ?tr2
  case th2 => (intro w hSw; (try dsimp only at hSw); go_simp; (try with_reducible rfl))
  simp only [Act.put, List.getElem_toArray, List.getElem_cons_succ, List.getElem_cons_zero]
  simp only [List.setIfInBounds_toArray]
  simp only [List.set]
  refine wpAnyH_take (i := 2) (v := ?tv3) rfl (by kernel_rfl) (by kernel_rfl) (by kernel_rfl) (fun _ _ _ h => h) (Or.inl ⟨by rfl, ?th3⟩) (by assumption) ?tr3
  case th3 => (intro w hSw; (try dsimp only at hSw); go_simp; (try with_reducible rfl))
  simp only [Act.put, List.getElem_toArray, List.getElem_cons_succ, List.getElem_cons_zero]
  simp only [List.setIfInBounds_toArray]
  simp only [List.set]
  refine wpAnyH_take (i := 3) (v := ?tv4) rfl (by kernel_rfl) (by kernel_rfl) (by kernel_rfl) (fun _ _ _ h => h) (Or.inl ⟨by rfl, ?th4⟩) (by assumption) ?tr4
  case th4 => (intro w hSw; (try dsimp only at hSw); go_simp; (try with_reducible rfl))
  simp only [Act.put, List.getElem_toArray, List.getElem_cons_succ, List.getElem_cons_zero]
  simp only [List.setIfInBounds_toArray]
  simp only [List.set]
  refine wpAnyH_take (i := 4) (v := ?tv5) rfl (by kernel_rfl) (by kernel_rfl) (by kernel_rfl) (fun _ _ _ h => h) (Or.inl ⟨by rfl, ?th5⟩) (by assumption) ?tr5
  case th5 => (intro w hSw; (try dsimp only at hSw); go_simp; (try with_reducible rfl))
  simp only [Act.put, List.getElem_toArray, List.getElem_cons_succ, List.getElem_cons_zero]
  simp only [List.setIfInBounds_toArray]
  simp only [List.set]
  refine wpAnyH_take (i := 5) (v := ?tv6) rfl (by kernel_rfl) (by kernel_rfl) (by kernel_rfl) (fun _ _ _ h => h) (Or.inl ⟨by rfl, ?th6⟩) (by assumption) ?tr6
  case th6 => (intro w hSw; (try dsimp only at hSw); go_simp; (try with_reducible rfl))
  simp only [Act.put, List.getElem_toArray, List.getElem_cons_succ, List.getElem_cons_zero]
  simp only [List.setIfInBounds_toArray]
  simp only [List.set]
  refine wpAnyH_take (i := 6) (v := ?tv7) rfl (by kernel_rfl) (by kernel_rfl) (by kernel_rfl) (fun _ _ _ h => h) (Or.inl ⟨by rfl, ?th7⟩) (by assumption) ?tr7
  case th7 => (intro w hSw; (try dsimp only at hSw); go_simp; (try with_reducible rfl))
  simp only [Act.put, List.getElem_toArray, List.getElem_cons_succ, List.getElem_cons_zero]
  simp only [List.setIfInBounds_toArray]
  simp only [List.set]
  refine wpAnyH_take (i := 7) (v := ?tv8) rfl (by kernel_rfl) (by kernel_rfl) (by kernel_rfl) (fun _ _ _ h => h) (Or.inl ⟨by rfl, ?th8⟩) (by assumption) ?tr8
  case th8 => (intro w hSw; (try dsimp only at hSw); go_simp; (try with_reducible rfl))
  simp only [Act.put, List.getElem_toArray, List.getElem_cons_succ, List.getElem_cons_zero]
  simp only [List.setIfInBounds_toArray]
  simp only [List.set]
  refine wpAnyH_take (i := 8) (v := ?tv9) rfl (by kernel_rfl) (by kernel_rfl) (by kernel_rfl) (fun _ _ _ h => h) (Or.inl ⟨by rfl, ?th9⟩) (by assumption) ?tr9
  case th9 => (intro w hSw; (try dsimp only at hSw); go_simp; (try with_reducible rfl))
  simp only [Act.put, List.getElem_toArray, List.getElem_cons_succ, List.getElem_cons_zero]
  simp only [List.setIfInBounds_toArray]
  simp only [List.set]
  refine wpAnyH_take (i := 10) (v := ?tv10) rfl (by kernel_rfl) (by kernel_rfl) (by kernel_rfl) (fun _ _ _ h => h) (Or.inl ⟨by rfl, ?th10⟩) (by assumption) ?tr10
  case th10 => (intro w hSw; (try dsimp only at hSw); go_simp; (try with_reducible rfl))
  simp only [Act.put, List.getElem_toArray, List.getElem_cons_succ, List.getElem_cons_zero]
  simp only [List.setIfInBounds_toArray]
  simp only [List.set]
  refine wpAnyH_take (i := 11) (v := ?tv11) rfl (by kernel_rfl) (by kernel_rfl) (by kernel_rfl) (fun _ _ _ h => h) (Or.inl ⟨by rfl, ?th11⟩) (by assumption) ?tr11
  case th11 => (intro w hSw; (try dsimp only at hSw); go_simp; (try with_reducible rfl))
  simp only [Act.put, List.getElem_toArray, List.getElem_cons_succ, List.getElem_cons_zero]
  simp only [List.setIfInBounds_toArray]
  simp only [List.set]
  refine wpAnyH_take (i := 12) (v := ?tv12) rfl (by kernel_rfl) (by kernel_rfl) (by kernel_rfl) (fun _ _ _ h => h) (Or.inl ⟨by rfl, ?th12⟩) (by assumption) ?tr12
  case th12 => (intro w hSw; (try dsimp only at hSw); go_simp; (try with_reducible rfl))
  simp only [Act.put, List.getElem_toArray, List.getElem_cons_succ, List.getElem_cons_zero]
  simp only [List.setIfInBounds_toArray]
  simp only [List.set]
  refine wpAnyH_take (i := 13) (v := ?tv13) rfl (by kernel_rfl) (by kernel_rfl) (by kernel_rfl) (fun _ _ _ h => h) (Or.inl ⟨by rfl, ?th13⟩) (by assumption) ?tr13
  case th13 => (intro w hSw; (try dsimp only at hSw); go_simp; (try with_reducible rfl))
  simp only [Act.put, List.getElem_toArray, List.getElem_cons_succ, List.getElem_cons_zero]
  simp only [List.setIfInBounds_toArray]
  simp only [List.set]
  refine wpAnyH_take (i := 14) (v := ?tv14) rfl (by kernel_rfl) (by kernel_rfl) (by kernel_rfl) (fun _ _ _ h => h) (Or.inl ⟨by rfl, ?th14⟩) (by assumption) ?tr14
  case th14 => (intro w hSw; (try dsimp only at hSw); go_simp; (try with_reducible rfl))
  simp only [Act.put, List.getElem_toArray, List.getElem_cons_succ, List.getElem_cons_zero]
  simp only [List.setIfInBounds_toArray]
  simp only [List.set]
  refine wpAnyH_take (i := 15) (v := ?tv15) rfl (by kernel_rfl) (by kernel_rfl) (by kernel_rfl) (fun _ _ _ h => h) (Or.inl ⟨by rfl, ?th15⟩) (by assumption) ?tr15
  case th15 => (intro w hSw; (try dsimp only at hSw); go_simp; (try with_reducible rfl))
  simp only [Act.put, List.getElem_toArray, List.getElem_cons_succ, List.getElem_cons_zero]
  simp only [List.setIfInBounds_toArray]
  simp only [List.set]
  refine wpAnyH_ready (rs := [9]) (by kernel_rfl) (by simp) ?_
  refine AllReadyH.cons rfl (fun K hK => ?_) AllReadyH.nil
  go_simp
  refine (show Calls Try.prog 51 #[.agg #[.int .i64 r0, .int .i64 r1, .int .i64 r2, .int .i64 r3], .int .i64 d] W.drew fun x w' => x = .returned (.agg #[.int .i64 sf.a, .int .i64 sf.b, .int .i64 sf.c, .int .i64 sf.d]) ∧ Below W.drew.heap.size W.drew w' from by rw [← HSF.out]; exact rfront_any ⟨r0, r1, r2, r3⟩ d W.drew).mono ?_
  rintro y w1 ⟨rfl, hb1⟩
  have HM1 := Lib.hid (HM.out.drew.next hb1)
  obtain ⟨⟨p0', p1', p2', p3'⟩, _, pl'⟩ := four HM1.out.hp
  obtain ⟨⟨a0', a1', a2', a3'⟩, _, al'⟩ := four HM1.out.hr
  obtain ⟨⟨z0', z1', z2', z3'⟩, ⟨f0', f1', f2', f3'⟩, zl'⟩ := four HM1.out.hz
  have ex1 : w1.cell? ⟨X + 1, d.toNat, none⟩ = some (.int .i64 rd) := by rw [← HRD.out]; exact at_cell HM1.out.hr hd0 hd4
  refine hK.out _ _ ⟨⟨p0', p1', p2', p3'⟩, ⟨a0', a1', a2', a3'⟩, ex1⟩ (fun hHeld => ?_)
  clear hK K
  try simp only [Act.put]
  try simp only [List.setIfInBounds_toArray]
  try simp only [List.set]
  refine wpAnyH_take (i := 16) (v := ?tv16) rfl (by kernel_rfl) (by kernel_rfl) (by kernel_rfl) (fun _ _ _ h => h) (Or.inl ⟨by rfl, ?th16⟩) (by assumption) ?tr16
  case th16 => (intro w hSw; (try dsimp only at hSw); go_simp; (try with_reducible rfl))
  simp only [Act.put, List.getElem_toArray, List.getElem_cons_succ, List.getElem_cons_zero]
  simp only [List.setIfInBounds_toArray]
  simp only [List.set]
  refine wpAnyH_take (i := 17) (v := undef) rfl (by kernel_rfl) (by kernel_rfl) (by kernel_rfl) (fun _ _ _ h => h) (Or.inr ⟨by rfl, rfl⟩) (by assumption) ?_
  simp only [Act.put, List.getElem_toArray, List.getElem_cons_succ, List.getElem_cons_zero]
  simp only [List.setIfInBounds_toArray]
  simp only [List.set]
  refine wpAnyH_take (i := 18) (v := undef) rfl (by kernel_rfl) (by kernel_rfl) (by kernel_rfl) (fun _ _ _ h => h) (Or.inr ⟨by rfl, rfl⟩) (by assumption) ?_
  simp only [Act.put, List.getElem_toArray, List.getElem_cons_succ, List.getElem_cons_zero]
  simp only [List.setIfInBounds_toArray]
  simp only [List.set]
  refine wpAnyH_take (i := 19) (v := undef) rfl (by kernel_rfl) (by kernel_rfl) (by kernel_rfl) (fun _ _ _ h => h) (Or.inr ⟨by rfl, rfl⟩) (by assumption) ?_
  simp only [Act.put, List.getElem_toArray, List.getElem_cons_succ, List.getElem_cons_zero]
  simp only [List.setIfInBounds_toArray]
  simp only [List.set]
  refine wpAnyH_take (i := 20) (v := ?tv20) rfl (by kernel_rfl) (by kernel_rfl) (by kernel_rfl) (fun _ _ _ h => h) (Or.inl ⟨by rfl, ?th20⟩) (by assumption) ?tr20
  case th20 => (intro w hSw; (try dsimp only at hSw); go_simp; (try with_reducible rfl))
  simp only [Act.put, List.getElem_toArray, List.getElem_cons_succ, List.getElem_cons_zero]
  simp only [List.setIfInBounds_toArray]
  simp only [List.set]
  refine wpAnyH_take (i := 21) (v := ?tv21) rfl (by kernel_rfl) (by kernel_rfl) (by kernel_rfl) (fun _ _ _ h => h) (Or.inl ⟨by rfl, ?th21⟩) (by assumption) ?tr21
  case th21 => (intro w hSw; (try dsimp only at hSw); go_simp; (try with_reducible rfl))
  simp only [Act.put, List.getElem_toArray, List.getElem_cons_succ, List.getElem_cons_zero]
  simp only [List.setIfInBounds_toArray]
  simp only [List.set]
  refine wpAnyH_take (i := 22) (v := undef) rfl (by kernel_rfl) (by kernel_rfl) (by kernel_rfl) (fun _ _ _ h => h) (Or.inr ⟨by rfl, rfl⟩) (by assumption) ?_
  simp only [Act.put, List.getElem_toArray, List.getElem_cons_succ, List.getElem_cons_zero]
  simp only [List.setIfInBounds_toArray]
  simp only [List.set]
  refine wpAnyH_take (i := 23) (v := undef) rfl (by kernel_rfl) (by kernel_rfl) (by kernel_rfl) (fun _ _ _ h => h) (Or.inr ⟨by rfl, rfl⟩) (by assumption) ?_
  simp only [Act.put, List.getElem_toArray, List.getElem_cons_succ, List.getElem_cons_zero]
  simp only [List.setIfInBounds_toArray]
  simp only [List.set]
  refine wpAnyH_take (i := 24) (v := undef) rfl (by kernel_rfl) (by kernel_rfl) (by kernel_rfl) (fun _ _ _ h => h) (Or.inr ⟨by rfl, rfl⟩) (by assumption) ?_
  simp only [Act.put, List.getElem_toArray, List.getElem_cons_succ, List.getElem_cons_zero]
  simp only [List.setIfInBounds_toArray]
  simp only [List.set]
  refine wpAnyH_take (i := 25) (v := ?tv25) rfl (by kernel_rfl) (by kernel_rfl) (by kernel_rfl) (fun _ _ _ h => h) (Or.inl ⟨by rfl, ?th25⟩) (by assumption) ?tr25
  case th25 => (intro w hSw; (try dsimp only at hSw); go_simp; (try with_reducible rfl))
  simp only [Act.put, List.getElem_toArray, List.getElem_cons_succ, List.getElem_cons_zero]
  simp only [List.setIfInBounds_toArray]
  simp only [List.set]
  refine wpAnyH_take (i := 26) (v := ?tv26) rfl (by kernel_rfl) (by kernel_rfl) (by kernel_rfl) (fun _ _ _ h => h) (Or.inl ⟨by rfl, ?th26⟩) (by assumption) ?tr26
  case th26 => (intro w hSw; (try dsimp only at hSw); go_simp; (try with_reducible rfl))
  simp only [Act.put, List.getElem_toArray, List.getElem_cons_succ, List.getElem_cons_zero]
  simp only [List.setIfInBounds_toArray]
  simp only [List.set]
  refine wpAnyH_take (i := 27) (v := ?tv27) rfl (by kernel_rfl) (by kernel_rfl) (by kernel_rfl) (fun _ _ _ h => h) (Or.inl ⟨by rfl, ?th27⟩) (by assumption) ?tr27
  case th27 => (intro w hSw; (try dsimp only at hSw); go_simp; (try with_reducible rfl))
  simp only [Act.put, List.getElem_toArray, List.getElem_cons_succ, List.getElem_cons_zero]
  simp only [List.setIfInBounds_toArray]
  simp only [List.set]
  refine wpAnyH_ready (rs := [28]) (by kernel_rfl) (by simp) ?_
  refine AllReadyH.cons rfl (fun K hK => ?_) AllReadyH.nil
  go_simp
  refine hK.out _ _ (by first | exact hHeld | exact ⟨⟨by rw [set_keep (by omega)]; exact p0', by rw [set_keep (by omega)]; exact p1', by rw [set_keep (by omega)]; exact p2', by rw [set_keep (by omega)]; exact p3'⟩, ⟨by rw [set_keep (by omega)]; exact a0', by rw [set_keep (by omega)]; exact a1', by rw [set_keep (by omega)]; exact a2', by rw [set_keep (by omega)]; exact a3'⟩, by rw [set_keep (by omega)]; exact ex1⟩) (fun hHeld => ?_)
  clear hK K
  try simp only [Act.put]
  try simp only [List.setIfInBounds_toArray]
  try simp only [List.set]
  refine wpAnyH_ready (rs := [29]) (by kernel_rfl) (by simp) ?_
  refine AllReadyH.cons rfl (fun K hK => ?_) AllReadyH.nil
  go_simp
  refine hK.out _ _ (by first | exact hHeld | exact ⟨⟨by rw [set_keep (by omega)]; exact p0', by rw [set_keep (by omega)]; exact p1', by rw [set_keep (by omega)]; exact p2', by rw [set_keep (by omega)]; exact p3'⟩, ⟨by rw [set_keep (by omega)]; exact a0', by rw [set_keep (by omega)]; exact a1', by rw [set_keep (by omega)]; exact a2', by rw [set_keep (by omega)]; exact a3'⟩, by rw [set_keep (by omega)]; exact ex1⟩) (fun hHeld => ?_)
  clear hK K
  try simp only [Act.put]
  try simp only [List.setIfInBounds_toArray]
  try simp only [List.set]
  refine wpAnyH_done (by kernel_rfl) ?_ _
  go_wp2_with fail
  exact back_end (Try.results35) rfl rfl rfl rfl rfl (HM1.out.done sf)
set_option maxRecDepth 100000 in
set_option maxHeartbeats 4000000 in
theorem back_rep1 (d n : Int) (b : Nat) (hv r0 r1 r2 r3 : Int) (w : World) (hb0 : ((b : Int) != 0) = false) (hd0 : 0 ≤ d) (hd4 : d < 4) (rd : Int) (hrd : (⟨r0, r1, r2, r3⟩ : Rp).at d = rd) (sf : Rp) (hsf : (⟨r0, r1, r2, r3⟩ : Rp).front d = sf) (c1 : decide (rd ≤ hv) = true) (c2 : decide (2 ≤ n) = false) :
    Calls Try.prog 35 #[.agg #[.int .i64 3, .int .i64 d, .int .i64 n, .int .u8 (b : Int)], .int .i64 hv, .agg #[.int .i64 r0, .int .i64 r1, .int .i64 r2, .int .i64 r3]] w (BackTo w rd n sf false) := by
  go_enter Try.func35, Try.ntmps35
  go_upto_region 1 with (fail)
  obtain ⟨q0, q1, q2, hb, hl⟩ := three_alloc w (.cells #[.int .i64 3, .int .i64 d, .int .i64 n, .int .u8 (b : Int)] 51) (.cells #[.int .i64 r0, .int .i64 r1, .int .i64 r2, .int .i64 r3] 68) (.cells #[.int .i64 0, .int .i64 0, .int .i64 0, .int .i64 0] 68)
  generalize ((w.alloc (.cells #[.int .i64 3, .int .i64 d, .int .i64 n, .int .u8 (b : Int)] 51)).alloc (.cells #[.int .i64 r0, .int .i64 r1, .int .i64 r2, .int .i64 r3] 68)).alloc (.cells #[.int .i64 0, .int .i64 0, .int .i64 0, .int .i64 0] 68) = W at *
  have HM := Lib.hid (show MemB w W w.heap.size 3 d n b r0 r1 r2 r3 from ⟨hb, rfl, q0, q1, q2⟩)
  clear hb q0 q1 q2 hl
  generalize w.heap.size = X at *
  obtain ⟨⟨p0, p1, p2, p3⟩, _, pl⟩ := four HM.out.hp
  obtain ⟨⟨a0, a1, a2, a3⟩, _, al⟩ := four HM.out.hr
  obtain ⟨⟨z0, z1, z2, z3⟩, ⟨f0, f1, f2, f3⟩, zl⟩ := four HM.out.hz
  go_upto_region 9 with (fail)
  have HRD := Lib.hid hrd
  have HSF := Lib.hid hsf
  clear hrd hsf
  have ex0 : W.drew.cell? ⟨X + 1, d.toNat, none⟩ = some (.int .i64 rd) := by rw [← HRD.out]; exact at_cell HM.out.drew.hr hd0 hd4
  refine wp_region_held_drew (S := fun W => (W.cell? ⟨X, 0, none⟩ = some (.int .i64 3) ∧ W.cell? ⟨X, 1, none⟩ = some (.int .i64 d) ∧ W.cell? ⟨X, 2, none⟩ = some (.int .i64 n) ∧ W.cell? ⟨X, 3, none⟩ = some (.int .u8 (b : Int))) ∧ (W.cell? ⟨X + 1, 0, none⟩ = some (.int .i64 r0) ∧ W.cell? ⟨X + 1, 1, none⟩ = some (.int .i64 r1) ∧ W.cell? ⟨X + 1, 2, none⟩ = some (.int .i64 r2) ∧ W.cell? ⟨X + 1, 3, none⟩ = some (.int .i64 r3)) ∧ W.cell? ⟨X + 1, d.toNat, none⟩ = some (.int .i64 rd)) (by kernel_rfl) ⟨⟨p0, p1, p2, p3⟩, ⟨a0, a1, a2, a3⟩, ex0⟩ (fun hHeld => ?_)
  refine wpAnyH_take (i := 0) (v := ?tv28) rfl (by kernel_rfl) (by kernel_rfl) (by kernel_rfl) (fun _ _ _ h => h) (Or.inl ⟨by rfl, ?th28⟩) (by assumption) ?tr28
  case th28 => (intro w hSw; (try dsimp only at hSw); go_simp; (try with_reducible rfl))
  simp only [Act.put, List.getElem_toArray, List.getElem_cons_zero]
  simp only [List.setIfInBounds_toArray]
  simp only [List.set]
  refine wpAnyH_take (i := 1) (v := ?tv29) rfl (by kernel_rfl) (by kernel_rfl) (by kernel_rfl) (fun _ _ _ h => h) (Or.inl ⟨by rfl, ?th29⟩) (by assumption) ?tr29
  case th29 => (intro w hSw; (try dsimp only at hSw); go_simp; (try with_reducible rfl))
  simp only [Act.put, List.getElem_toArray, List.getElem_cons_succ, List.getElem_cons_zero]
  simp only [List.setIfInBounds_toArray]
  simp only [List.set]
  refine wpAnyH_take (i := 2) (v := ?tv30) rfl (by kernel_rfl) (by kernel_rfl) (by kernel_rfl) (fun _ _ _ h => h) (Or.inl ⟨by rfl, ?th30⟩) (by assumption) ?tr30
  case th30 => (intro w hSw; (try dsimp only at hSw); go_simp; (try with_reducible rfl))
  simp only [Act.put, List.getElem_toArray, List.getElem_cons_succ, List.getElem_cons_zero]
  simp only [List.setIfInBounds_toArray]
  simp only [List.set]
  refine wpAnyH_take (i := 3) (v := ?tv31) rfl (by kernel_rfl) (by kernel_rfl) (by kernel_rfl) (fun _ _ _ h => h) (Or.inl ⟨by rfl, ?th31⟩) (by assumption) ?tr31
  case th31 => (intro w hSw; (try dsimp only at hSw); go_simp; (try with_reducible rfl))
  simp only [Act.put, List.getElem_toArray, List.getElem_cons_succ, List.getElem_cons_zero]
  simp only [List.setIfInBounds_toArray]
  simp only [List.set]
  refine wpAnyH_take (i := 4) (v := ?tv32) rfl (by kernel_rfl) (by kernel_rfl) (by kernel_rfl) (fun _ _ _ h => h) (Or.inl ⟨by rfl, ?th32⟩) (by assumption) ?tr32
  case th32 => (intro w hSw; (try dsimp only at hSw); go_simp; (try with_reducible rfl))
  simp only [Act.put, List.getElem_toArray, List.getElem_cons_succ, List.getElem_cons_zero]
  simp only [List.setIfInBounds_toArray]
  simp only [List.set]
  refine wpAnyH_take (i := 5) (v := ?tv33) rfl (by kernel_rfl) (by kernel_rfl) (by kernel_rfl) (fun _ _ _ h => h) (Or.inl ⟨by rfl, ?th33⟩) (by assumption) ?tr33
  case th33 => (intro w hSw; (try dsimp only at hSw); go_simp; (try with_reducible rfl))
  simp only [Act.put, List.getElem_toArray, List.getElem_cons_succ, List.getElem_cons_zero]
  simp only [List.setIfInBounds_toArray]
  simp only [List.set]
  refine wpAnyH_take (i := 6) (v := ?tv34) rfl (by kernel_rfl) (by kernel_rfl) (by kernel_rfl) (fun _ _ _ h => h) (Or.inl ⟨by rfl, ?th34⟩) (by assumption) ?tr34
  case th34 => (intro w hSw; (try dsimp only at hSw); go_simp; (try with_reducible rfl))
  simp only [Act.put, List.getElem_toArray, List.getElem_cons_succ, List.getElem_cons_zero]
  simp only [List.setIfInBounds_toArray]
  simp only [List.set]
  refine wpAnyH_take (i := 7) (v := ?tv35) rfl (by kernel_rfl) (by kernel_rfl) (by kernel_rfl) (fun _ _ _ h => h) (Or.inl ⟨by rfl, ?th35⟩) (by assumption) ?tr35
  case th35 => (intro w hSw; (try dsimp only at hSw); go_simp; (try with_reducible rfl))
  simp only [Act.put, List.getElem_toArray, List.getElem_cons_succ, List.getElem_cons_zero]
  simp only [List.setIfInBounds_toArray]
  simp only [List.set]
  refine wpAnyH_take (i := 8) (v := ?tv36) rfl (by kernel_rfl) (by kernel_rfl) (by kernel_rfl) (fun _ _ _ h => h) (Or.inl ⟨by rfl, ?th36⟩) (by assumption) ?tr36
  case th36 => (intro w hSw; (try dsimp only at hSw); go_simp; (try with_reducible rfl))
  simp only [Act.put, List.getElem_toArray, List.getElem_cons_succ, List.getElem_cons_zero]
  simp only [List.setIfInBounds_toArray]
  simp only [List.set]
  refine wpAnyH_take (i := 10) (v := ?tv37) rfl (by kernel_rfl) (by kernel_rfl) (by kernel_rfl) (fun _ _ _ h => h) (Or.inl ⟨by rfl, ?th37⟩) (by assumption) ?tr37
  case th37 => (intro w hSw; (try dsimp only at hSw); go_simp; (try with_reducible rfl))
  simp only [Act.put, List.getElem_toArray, List.getElem_cons_succ, List.getElem_cons_zero]
  simp only [List.setIfInBounds_toArray]
  simp only [List.set]
  refine wpAnyH_take (i := 11) (v := ?tv38) rfl (by kernel_rfl) (by kernel_rfl) (by kernel_rfl) (fun _ _ _ h => h) (Or.inl ⟨by rfl, ?th38⟩) (by assumption) ?tr38
  case th38 => (intro w hSw; (try dsimp only at hSw); go_simp; (try with_reducible rfl))
  simp only [Act.put, List.getElem_toArray, List.getElem_cons_succ, List.getElem_cons_zero]
  simp only [List.setIfInBounds_toArray]
  simp only [List.set]
  refine wpAnyH_take (i := 12) (v := ?tv39) rfl (by kernel_rfl) (by kernel_rfl) (by kernel_rfl) (fun _ _ _ h => h) (Or.inl ⟨by rfl, ?th39⟩) (by assumption) ?tr39
  case th39 => (intro w hSw; (try dsimp only at hSw); go_simp; (try with_reducible rfl))
  simp only [Act.put, List.getElem_toArray, List.getElem_cons_succ, List.getElem_cons_zero]
  simp only [List.setIfInBounds_toArray]
  simp only [List.set]
  refine wpAnyH_take (i := 13) (v := ?tv40) rfl (by kernel_rfl) (by kernel_rfl) (by kernel_rfl) (fun _ _ _ h => h) (Or.inl ⟨by rfl, ?th40⟩) (by assumption) ?tr40
  case th40 => (intro w hSw; (try dsimp only at hSw); go_simp; (try with_reducible rfl))
  simp only [Act.put, List.getElem_toArray, List.getElem_cons_succ, List.getElem_cons_zero]
  simp only [List.setIfInBounds_toArray]
  simp only [List.set]
  refine wpAnyH_take (i := 14) (v := ?tv41) rfl (by kernel_rfl) (by kernel_rfl) (by kernel_rfl) (fun _ _ _ h => h) (Or.inl ⟨by rfl, ?th41⟩) (by assumption) ?tr41
  case th41 => (intro w hSw; (try dsimp only at hSw); go_simp; (try with_reducible rfl))
  simp only [Act.put, List.getElem_toArray, List.getElem_cons_succ, List.getElem_cons_zero]
  simp only [List.setIfInBounds_toArray]
  simp only [List.set]
  refine wpAnyH_take (i := 15) (v := ?tv42) rfl (by kernel_rfl) (by kernel_rfl) (by kernel_rfl) (fun _ _ _ h => h) (Or.inl ⟨by rfl, ?th42⟩) (by assumption) ?tr42
  case th42 => (intro w hSw; (try dsimp only at hSw); go_simp; (try with_reducible rfl))
  simp only [Act.put, List.getElem_toArray, List.getElem_cons_succ, List.getElem_cons_zero]
  simp only [List.setIfInBounds_toArray]
  simp only [List.set]
  refine wpAnyH_ready (rs := [9]) (by kernel_rfl) (by simp) ?_
  refine AllReadyH.cons rfl (fun K hK => ?_) AllReadyH.nil
  go_simp
  refine (show Calls Try.prog 51 #[.agg #[.int .i64 r0, .int .i64 r1, .int .i64 r2, .int .i64 r3], .int .i64 d] W.drew fun x w' => x = .returned (.agg #[.int .i64 sf.a, .int .i64 sf.b, .int .i64 sf.c, .int .i64 sf.d]) ∧ Below W.drew.heap.size W.drew w' from by rw [← HSF.out]; exact rfront_any ⟨r0, r1, r2, r3⟩ d W.drew).mono ?_
  rintro y w1 ⟨rfl, hb1⟩
  have HM1 := Lib.hid (HM.out.drew.next hb1)
  obtain ⟨⟨p0', p1', p2', p3'⟩, _, pl'⟩ := four HM1.out.hp
  obtain ⟨⟨a0', a1', a2', a3'⟩, _, al'⟩ := four HM1.out.hr
  obtain ⟨⟨z0', z1', z2', z3'⟩, ⟨f0', f1', f2', f3'⟩, zl'⟩ := four HM1.out.hz
  have ex1 : w1.cell? ⟨X + 1, d.toNat, none⟩ = some (.int .i64 rd) := by rw [← HRD.out]; exact at_cell HM1.out.hr hd0 hd4
  refine hK.out _ _ ⟨⟨p0', p1', p2', p3'⟩, ⟨a0', a1', a2', a3'⟩, ex1⟩ (fun hHeld => ?_)
  clear hK K
  try simp only [Act.put]
  try simp only [List.setIfInBounds_toArray]
  try simp only [List.set]
  refine wpAnyH_take (i := 16) (v := ?tv43) rfl (by kernel_rfl) (by kernel_rfl) (by kernel_rfl) (fun _ _ _ h => h) (Or.inl ⟨by rfl, ?th43⟩) (by assumption) ?tr43
  case th43 => (intro w hSw; (try dsimp only at hSw); go_simp; (try with_reducible rfl))
  simp only [Act.put, List.getElem_toArray, List.getElem_cons_succ, List.getElem_cons_zero]
  simp only [List.setIfInBounds_toArray]
  simp only [List.set]
  refine wpAnyH_take (i := 17) (v := ?tv44) rfl (by kernel_rfl) (by kernel_rfl) (by kernel_rfl) (fun _ _ _ h => h) (Or.inl ⟨by rfl, ?th44⟩) (by assumption) ?tr44
  case th44 => (intro w hSw; (try dsimp only at hSw); go_simp; (try with_reducible rfl))
  simp only [Act.put, List.getElem_toArray, List.getElem_cons_succ, List.getElem_cons_zero]
  simp only [List.setIfInBounds_toArray]
  simp only [List.set]
  refine wpAnyH_take (i := 18) (v := ?tv45) rfl (by kernel_rfl) (by kernel_rfl) (by kernel_rfl) (fun _ _ _ h => h) (Or.inl ⟨by rfl, ?th45⟩) (by assumption) ?tr45
  case th45 => (intro w hSw; (try dsimp only at hSw); go_simp; (try with_reducible rfl))
  simp only [Act.put, List.getElem_toArray, List.getElem_cons_succ, List.getElem_cons_zero]
  simp only [List.setIfInBounds_toArray]
  simp only [List.set]
  refine wpAnyH_take (i := 19) (v := ?tv46) rfl (by kernel_rfl) (by kernel_rfl) (by kernel_rfl) (fun _ _ _ h => h) (Or.inl ⟨by rfl, ?th46⟩) (by assumption) ?tr46
  case th46 => (intro w hSw; (try dsimp only at hSw); go_simp; (try with_reducible rfl))
  simp only [Act.put, List.getElem_toArray, List.getElem_cons_succ, List.getElem_cons_zero]
  simp only [List.setIfInBounds_toArray]
  simp only [List.set]
  refine wpAnyH_take (i := 20) (v := ?tv47) rfl (by kernel_rfl) (by kernel_rfl) (by kernel_rfl) (fun _ _ _ h => h) (Or.inl ⟨by rfl, ?th47⟩) (by assumption) ?tr47
  case th47 => (intro w hSw; (try dsimp only at hSw); go_simp; (try with_reducible rfl))
  simp only [Act.put, List.getElem_toArray, List.getElem_cons_succ, List.getElem_cons_zero]
  simp only [List.setIfInBounds_toArray]
  simp only [List.set]
  refine wpAnyH_take (i := 21) (v := ?tv48) rfl (by kernel_rfl) (by kernel_rfl) (by kernel_rfl) (fun _ _ _ h => h) (Or.inl ⟨by rfl, ?th48⟩) (by assumption) ?tr48
  case th48 => (intro w hSw; (try dsimp only at hSw); go_simp; (try with_reducible rfl))
  simp only [Act.put, List.getElem_toArray, List.getElem_cons_succ, List.getElem_cons_zero]
  simp only [List.setIfInBounds_toArray]
  simp only [List.set]
  refine wpAnyH_take (i := 22) (v := undef) rfl (by kernel_rfl) (by kernel_rfl) (by kernel_rfl) (fun _ _ _ h => h) (Or.inr ⟨by rfl, rfl⟩) (by assumption) ?_
  simp only [Act.put, List.getElem_toArray, List.getElem_cons_succ, List.getElem_cons_zero]
  simp only [List.setIfInBounds_toArray]
  simp only [List.set]
  refine wpAnyH_take (i := 23) (v := undef) rfl (by kernel_rfl) (by kernel_rfl) (by kernel_rfl) (fun _ _ _ h => h) (Or.inr ⟨by rfl, rfl⟩) (by assumption) ?_
  simp only [Act.put, List.getElem_toArray, List.getElem_cons_succ, List.getElem_cons_zero]
  simp only [List.setIfInBounds_toArray]
  simp only [List.set]
  refine wpAnyH_take (i := 24) (v := undef) rfl (by kernel_rfl) (by kernel_rfl) (by kernel_rfl) (fun _ _ _ h => h) (Or.inr ⟨by rfl, rfl⟩) (by assumption) ?_
  simp only [Act.put, List.getElem_toArray, List.getElem_cons_succ, List.getElem_cons_zero]
  simp only [List.setIfInBounds_toArray]
  simp only [List.set]
  refine wpAnyH_take (i := 25) (v := ?tv52) rfl (by kernel_rfl) (by kernel_rfl) (by kernel_rfl) (fun _ _ _ h => h) (Or.inl ⟨by rfl, ?th52⟩) (by assumption) ?tr52
  case th52 => (intro w hSw; (try dsimp only at hSw); go_simp; (try with_reducible rfl))
  simp only [Act.put, List.getElem_toArray, List.getElem_cons_succ, List.getElem_cons_zero]
  simp only [List.setIfInBounds_toArray]
  simp only [List.set]
  refine wpAnyH_take (i := 26) (v := ?tv53) rfl (by kernel_rfl) (by kernel_rfl) (by kernel_rfl) (fun _ _ _ h => h) (Or.inl ⟨by rfl, ?th53⟩) (by assumption) ?tr53
  case th53 => (intro w hSw; (try dsimp only at hSw); go_simp; (try with_reducible rfl))
  simp only [Act.put, List.getElem_toArray, List.getElem_cons_succ, List.getElem_cons_zero]
  simp only [List.setIfInBounds_toArray]
  simp only [List.set]
  refine wpAnyH_take (i := 27) (v := ?tv54) rfl (by kernel_rfl) (by kernel_rfl) (by kernel_rfl) (fun _ _ _ h => h) (Or.inl ⟨by rfl, ?th54⟩) (by assumption) ?tr54
  case th54 => (intro w hSw; (try dsimp only at hSw); go_simp; (try with_reducible rfl))
  simp only [Act.put, List.getElem_toArray, List.getElem_cons_succ, List.getElem_cons_zero]
  simp only [List.setIfInBounds_toArray]
  simp only [List.set]
  refine wpAnyH_ready (rs := [28]) (by kernel_rfl) (by simp) ?_
  refine AllReadyH.cons rfl (fun K hK => ?_) AllReadyH.nil
  go_simp
  refine hK.out _ _ (by first | exact hHeld | exact ⟨⟨by rw [set_keep (by omega)]; exact p0', by rw [set_keep (by omega)]; exact p1', by rw [set_keep (by omega)]; exact p2', by rw [set_keep (by omega)]; exact p3'⟩, ⟨by rw [set_keep (by omega)]; exact a0', by rw [set_keep (by omega)]; exact a1', by rw [set_keep (by omega)]; exact a2', by rw [set_keep (by omega)]; exact a3'⟩, by rw [set_keep (by omega)]; exact ex1⟩) (fun hHeld => ?_)
  clear hK K
  try simp only [Act.put]
  try simp only [List.setIfInBounds_toArray]
  try simp only [List.set]
  refine wpAnyH_ready (rs := [29]) (by kernel_rfl) (by simp) ?_
  refine AllReadyH.cons rfl (fun K hK => ?_) AllReadyH.nil
  go_simp
  refine hK.out _ _ (by first | exact hHeld | exact ⟨⟨by rw [set_keep (by omega)]; exact p0', by rw [set_keep (by omega)]; exact p1', by rw [set_keep (by omega)]; exact p2', by rw [set_keep (by omega)]; exact p3'⟩, ⟨by rw [set_keep (by omega)]; exact a0', by rw [set_keep (by omega)]; exact a1', by rw [set_keep (by omega)]; exact a2', by rw [set_keep (by omega)]; exact a3'⟩, by rw [set_keep (by omega)]; exact ex1⟩) (fun hHeld => ?_)
  clear hK K
  try simp only [Act.put]
  try simp only [List.setIfInBounds_toArray]
  try simp only [List.set]
  refine wpAnyH_done (by kernel_rfl) ?_ _
  go_wp2_with fail
  exact back_end (Try.results35) rfl rfl rfl rfl rfl (HM1.out.done sf)
end Go.Proofs.Ythdjnbhdgacmgaa.Pk
