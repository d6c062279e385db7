/-
  Package bst: the contract of Next.
  Package packet: Fits, of bytes, matches, short ones, and what is no packet.
-/
import Derived.Test.YtoneghmahdjgbaaGreatPk04
import Derived.Test.YtoneghmahdjgbaaGreatPk10
import Derived.Deep.RegionWith
import Derived.Deep.RegionHeld3
section
namespace Go.Proofs.YtoneghmahdjgbaaGreat.Bs
open Go.RowKit Go.Maps
open Mt
open Ch (bt bt_at bt_lt Dm ret_num Founds)
theorem allL_none (b : Nat → Nat) (p most : Nat) (W : Int) : ∀ (x best : Nat), most ≤ best → allL b p most W x best = []
  | 0, _, _ => rfl
  | x + 1, best, h => by
    have := mat_le b p x most 0
    rw [allL, if_neg (show ¬ best < mat b p x 0 most by omega), allL_none b p most W x best h]
    split <;> rfl
/-- What is found at p. -/
def bstL (s : ByteArray) (window : Int) (p : Nat) : List (Nat × Nat) := allL (bt s) p (lim s p) window p 1
theorem bstL_none {s : ByteArray} {window : Int} {p : Nat} (h : ¬ p + 2 ≤ s.size) : bstL s window p = [] := allL_none _ _ _ _ _ _ (by unfold lim; omega)
/-- What Next leaves; what is new has the colour e. -/
def NextTo (w : World) (O : Paint) (c a : Nat) (s : ByteArray) (window : Int) (p p' B : Nat) (v : Value) (e : Nat) (x : Ending) (w' : World) : Prop :=
  ∃ v', x = .returned v' ∧ Founds 93 w w' v' (bstL s window p) ∧ ∃ xs' D', Step [c] w O w' (Step.paint O w e) ∧ BinAt w' (Step.paint O w e) c a s window p' p' B v xs' D' ∧ (p' + 2 ≤ s.size → Forest (bt s) (lim s) s.size window (cf xs') p')
theorem boxes {w W : World} {X Y : Nat} (hb : Below w.heap.size w W) (hY : W.heap[Y]? = some (.cells #[.slice none 0 0] 84 (0, 0))) (hYn : w.heap.size ≤ Y) (hX : W.heap.size = X) :
    Met w (W.alloc (.cells #[.int .i64 0] 3)) X Y 0 (.slice none 0 0) [] ∧ Below w.heap.size w (W.alloc (.cells #[.int .i64 0] 3)) := by
  subst hX
  have hs := hb.size
  have hYl := lt_of_heap hY
  have h2 := heap_alloc_new W (.cells #[.int .i64 0] 3)
  have h3 := (Below.heap_alloc W (.cells #[.int .i64 0] 3) Y hYl).trans hY
  exact ⟨⟨h2, h3, by omega, hYn, Founds.nil _ _ _, Nat.le_refl _⟩, hb.alloc hs _⟩
section
variable {w w' : World} {O O' : Paint} {c a : Nat} {s : ByteArray} {window : Int} {p r B : Nat} {v : Value} {xs : List Int} {D : Dm}
theorem next_end (h : BinAt w O c a s window p p B v xs D) (hp : p = s.size) (e : Nat) :
    Calls Tryz.prog 40 #[.pointer (some ⟨a, 0, none⟩)] w (NextTo w O c a s window p p B v e) := by
  obtain ⟨h0, h1, h2, h3, h4⟩ := h.cells
  have HLF := Lib.hid (left_raw h0 h2 h.place h.small)
  have HF := Lib.hid h
  have hd : (((s.size : Int) - (p : Int)) == 0) = true := by rw [beq_iff_eq]; omega
  have HFL := Lib.hid (bstL_none (window := window) (show ¬ p + 2 ≤ s.size by omega))
  have hp2 : ¬ p + 2 ≤ s.size := by omega
  clear h h0 h1 h2 h3 h4 hp
  go_enter Tryz.func40, Tryz.ntmps40
  go_wp2_with fail
  refine HLF.out.mono ?_
  rintro x w1 ⟨rfl, n1, rfl⟩
  go_wp2_with fail
  go_ret
  exact ⟨_, rfl, by rw [HFL.out]; exact Founds.nil _ _ _, _, _, ((Step.refl _ _ _).repaint e).drewN n1, HF.out.step (((Step.refl [] w O).repaint e).drewN n1) (by simp), fun h => absurd h hp2⟩
set_option maxHeartbeats 1000000 in
theorem next_last (h : BinAt w O c a s window p p B v xs D) (hp : p < s.size) (hp2 : ¬ p + 2 ≤ s.size) (e : Nat) :
    Calls Tryz.prog 40 #[.pointer (some ⟨a, 0, none⟩)] w (NextTo w O c a s window p (p + 1) B v e) := by
  have HLF : Hid (∀ W, BinAt W O c a s window p p B v xs D → Calls Tryz.prog 61 #[.pointer (some ⟨a, 0, none⟩)] W fun x w' => x = .returned (.int .i64 ((s.size : Int) - p)) ∧ ∃ n, w' = W.drewN n) := Lib.hid fun W hW => left_raw hW.cells.1 hW.cells.2.2.1 hW.place hW.small
  have HF := Lib.hid h
  have hd : (((s.size : Int) - (p : Int)) == 0) = false := by rw [beq_eq_false_iff_ne]; omega
  have hd2 : decide (2 ≤ (s.size : Int) - (p : Int)) = false := by simp; omega
  have HFL := Lib.hid (bstL_none (window := window) hp2)
  have hsm := h.small
  have hal := h.blk.lt
  clear h
  go_enter Tryz.func40, Tryz.ntmps40
  go_wp2_with fail
  refine (HLF.out _ HF.out).mono ?_
  rintro x w1 ⟨rfl, n1, rfl⟩
  go_upto_region 4 with (fail)
  have hal1 : (w.drewN n1).heap.size = w.heap.size := rfl
  have hb1 : Below w.heap.size w ((w.drewN n1).alloc (.cells #[.slice none 0 0] 84)) := (below_drewN (Below.refl _ w) n1).alloc (by rw [hal1]; omega) _
  have hy1 := heap_alloc_new (w.drewN n1) (.cells #[.slice none 0 0] 84)
  rw [hal1] at hy1
  have HY1 := Lib.hid hy1
  have HB1 := Lib.hid hb1
  have HF1 := Lib.hid (HF.out.below hb1)
  clear hb1 hy1 hal1
  generalize (w.drewN n1).alloc (.cells #[.slice none 0 0] 84) = W1 at *
  go_wp2_with fail
  refine (HLF.out _ HF1.out).mono ?_
  rintro x w1 ⟨rfl, n2, rfl⟩
  have HB2 := Lib.hid (below_drewN HB1.out n2)
  have HF2 := Lib.hid (HF.out.step (Step.of_below HB2.out O e) (by simp))
  have HY2 : Hid ((W1.drewN n2).heap[w.heap.size]? = _) := Lib.hid HY1.out
  clear HF1 HB1 HY1 HLF HF
  generalize W1.drewN n2 = W at *
  obtain ⟨h0, h1, h2, h3, h4⟩ := HF2.out.cells
  have hf3 := HF2.out.blk.free 2
  go_upto_region 8 with (fail)
  have hm := HF2.out.move hp (by omega) (by omega)
  have HM := Lib.hid hm
  have hy3 : (W.setCell ⟨a, 2, none⟩ (.int .i64 ((p : Int) + 1))).cell? ⟨w.heap.size, 0, none⟩ = some (.slice none 0 0) := by
    have : (W.setCell ⟨a, 2, none⟩ (.int .i64 ((p : Int) + 1))).heap[w.heap.size]? = _ := (Below.heap_setCell _ _ _ _ (by show w.heap.size ≠ a; omega)).trans HY2.out
    exact (one_cell this).1
  clear hm h0 h1 h2 h3 h4 hf3
  generalize W.setCell ⟨a, 2, none⟩ (.int .i64 ((p : Int) + 1)) = W3 at *
  go_wp2_with fail
  go_ret
  exact ⟨_, rfl, by rw [HFL.out]; exact Founds.nil _ _ _, _, _, ((Step.refl [c] w O).repaint e).trans ((Step.of_below_same HB2.out _).nil.trans HM.out.2), HM.out.1, fun h => by omega⟩
set_option maxRecDepth 100000 in
set_option maxHeartbeats 1000000 in
theorem next_more (h : BinAt w O c a s window p p B v xs D) (hfor : Forest (bt s) (lim s) s.size window (cf xs) p) (hp2 : p + 2 ≤ s.size) (hw0 : -9223372036854775808 ≤ window) (hw1 : window ≤ 9223372036854775807) (e : Nat) (he : e ≠ c) :
    Calls Tryz.prog 40 #[.pointer (some ⟨a, 0, none⟩)] w (NextTo w O c a s window p (p + 1) B v e) := by
  obtain ⟨g, cap, rfl, _, hg⟩ := h.nodes.form (by omega)
  have HLF : Hid (∀ W, BinAt W O c a s window p p B (.slice (some ⟨g, 0, none⟩) s.size cap) xs D → Calls Tryz.prog 61 #[.pointer (some ⟨a, 0, none⟩)] W fun x w' => x = .returned (.int .i64 ((s.size : Int) - p)) ∧ ∃ n, w' = W.drewN n) := Lib.hid fun W hW => left_raw hW.cells.1 hW.cells.2.2.1 hW.place hW.small
  obtain ⟨t, ht1, ht2, ht3, ht4⟩ := hfor p hp2
  have HFD : Hid (bstL s window p = recM (bt s) p (lim s p) (t.split (bt s) p (lim s p) window).1 0) := Lib.hid (found_rec (W := window) ht2 ht3 ht4 (fun y hy => by unfold lim; omega) (by unfold lim; omega))
  have HFN := Lib.hid (fun c' (hP : Planted (bt s) p (lim s p) window t (cf xs) c') => hfor.next ht2 ht3 ht4 (fun y hy => by unfold lim; omega) hP)
  have HT1 := Lib.hid ht1
  have HT2 := Lib.hid ht2
  have HT3 := Lib.hid ht3
  have HF := Lib.hid h
  have hd : (((s.size : Int) - (p : Int)) == 0) = false := by rw [beq_eq_false_iff_ne]; omega
  have hd2 : decide (2 ≤ (s.size : Int) - (p : Int)) = true := by simp; omega
  have hsm := h.small
  have hal := h.blk.lt
  have hBl := h.own.lt
  clear h ht1 ht2 ht3 ht4 hfor
  go_enter Tryz.func40, Tryz.ntmps40
  go_wp2_with fail
  refine (HLF.out _ HF.out).mono ?_
  rintro x w1 ⟨rfl, n1, rfl⟩
  go_upto_region 4 with (fail)
  have hal1 : (w.drewN n1).heap.size = w.heap.size := rfl
  have hb1 : Below w.heap.size w ((w.drewN n1).alloc (.cells #[.slice none 0 0] 84)) := (below_drewN (Below.refl _ w) n1).alloc (by rw [hal1]; omega) _
  have hy1 := heap_alloc_new (w.drewN n1) (.cells #[.slice none 0 0] 84)
  rw [hal1] at hy1
  have HY1 := Lib.hid hy1
  have HB1 := Lib.hid hb1
  have HF1 := Lib.hid (HF.out.below hb1)
  clear hb1 hy1 hal1
  generalize (w.drewN n1).alloc (.cells #[.slice none 0 0] 84) = W1 at *
  go_wp2_with fail
  refine (HLF.out _ HF1.out).mono ?_
  rintro x w1 ⟨rfl, n2, rfl⟩
  have HB2 := Lib.hid (below_drewN HB1.out n2)
  have HY2 : Hid ((W1.drewN n2).heap[w.heap.size]? = _) := Lib.hid HY1.out
  clear HF1 HB1 HY1 HLF
  generalize W1.drewN n2 = W at *
  obtain ⟨Y, hYe⟩ : ∃ Y, Y = w.heap.size := ⟨_, rfl⟩
  rw [← hYe] at HY2
  rw [← hYe]
  have HYE := Lib.hid hYe
  obtain ⟨X, hX⟩ : ∃ X, W.heap.size = X := ⟨_, rfl⟩
  have hbx := boxes HB2.out HY2.out (Nat.le_of_eq HYE.out.symm) hX
  have hsz := HB2.out.size
  have HX := Lib.hid (show w.heap.size ≤ X by omega)
  have HXE := Lib.hid hX
  have HMX := Lib.hid hbx.1
  have HBX := Lib.hid hbx.2
  clear hbx hX hYe HB2 HY2
  go_upto_region 6 with (fail)
  rw [HXE.out]
  generalize W.alloc (.cells #[.int .i64 0] 3) = W2 at *
  have HF2 := Lib.hid (HF.out.step (Step.of_below HBX.out O e) (by simp))
  have HS2 : Hid (Step [c] w (Step.paint O w e) W2 (Step.paint O w e)) := Lib.hid (Step.of_below_same HBX.out _).nil
  have HOX : Hid (Step.paint O w e X ≠ c) := Lib.hid (by rw [Step.paint_new HX.out]; exact he)
  have HOY : Hid (Step.paint O w e Y ≠ c) := Lib.hid (by rw [Step.paint_new (Nat.le_of_eq HYE.out.symm)]; exact he)
  have HS1 : Hid (Step [c] w O w (Step.paint O w e)) := Lib.hid ((Step.refl _ _ _).repaint _)
  clear HBX HXE
  generalize hO1 : Step.paint O w e = O1 at *
  have HO1 := Lib.hid hO1
  clear hO1
  go_wp2_with fail
  refine (plant_any HF2.out HMX.out HS2.out ⟨hal, hBl, hg⟩ hp2 HOX.out HOY.out HT1.out HT2.out HT3.out hw0 hw1).mono ?_
  rintro x w5 ⟨rfl, xs5, D5, lo5, u5, hT5, hP5⟩
  have HT5 := Lib.hid hT5
  have HFO := Lib.hid (HFN.out _ hP5)
  clear hT5 hP5 HF2 HMX HS2 HT1 HT2 HT3 HFN
  rw [← HFD.out] at HT5
  obtain ⟨h0, h1, h2, h3, h4⟩ := HT5.out.bin.cells
  have hf3 := HT5.out.bin.blk.free 2
  go_upto_region 8 with (fail)
  have hm := HT5.out.bin.move (by omega) (fun _ => rfl) (by omega)
  have HM := Lib.hid hm
  have hy3 : (w5.setCell ⟨a, 2, none⟩ (.int .i64 ((p : Int) + 1))).cell? ⟨Y, 0, none⟩ = some u5 := by
    have : (w5.setCell ⟨a, 2, none⟩ (.int .i64 ((p : Int) + 1))).heap[Y]? = _ := (Below.heap_setCell _ _ _ _ (by show Y ≠ a; have := HYE.out; omega)).trans HT5.out.met.hY
    exact (one_cell this).1
  have HFR : Hid (Frame (fun k => k = a) w5 (w5.setCell ⟨a, 2, none⟩ (.int .i64 ((p : Int) + 1)))) := Lib.hid ((Frame.refl (fun k => k = a) w5).setCell (p := ⟨a, 2, none⟩) (.inl rfl) _)
  clear hm h0 h1 h2 h3 h4 hf3
  generalize w5.setCell ⟨a, 2, none⟩ (.int .i64 ((p : Int) + 1)) = W3 at *
  go_wp2_with fail
  go_ret
  unfold NextTo
  rw [HO1.out]
  refine ⟨_, rfl, ⟨?_, HT5.out.met.founds.new⟩, _, _, HS1.out.trans (HT5.out.st.trans HM.out.2), HM.out.1, fun _ => HFO.out⟩
  exact ownsRow_frame HT5.out.met.founds.row HFR.out (fun k hk e1 => by have := HT5.out.met.founds.new k hk; omega)
/-- The next place. -/
theorem next_any (h : BinAt w O c a s window p p B v xs D) (hfor : p + 2 ≤ s.size → Forest (bt s) (lim s) s.size window (cf xs) p) (hw0 : -9223372036854775808 ≤ window) (hw1 : window ≤ 9223372036854775807) (e : Nat) (he : e ≠ c) :
    Calls Tryz.prog 40 #[.pointer (some ⟨a, 0, none⟩)] w (NextTo w O c a s window p (min (p + 1) s.size) B v e) := by
  by_cases h0 : p = s.size
  · rw [show min (p + 1) s.size = p from by omega]
    exact next_end h h0 e
  · have := h.place
    rw [show min (p + 1) s.size = p + 1 from by omega]
    by_cases h2 : p + 2 ≤ s.size
    · exact next_more h (hfor h2) h2 hw0 hw1 e he
    · exact next_last h (by omega) h2 e
end
end Go.Proofs.YtoneghmahdjgbaaGreat.Bs
end
section
namespace Go.Proofs.YtoneghmahdjgbaaGreat.Pk
open Go.RowKit
set_option maxRecDepth 100000 in
set_option maxHeartbeats 4000000 in
theorem fits_bad (k d n : Int) (b : Nat) (hv r0 r1 r2 r3 : Int) (w : World) (hpl : (⟨k, d, n, b⟩ : Pt).plain = false)  :
    Calls Tryz.prog 24 #[.agg #[.int .i64 k, .int .i64 d, .int .i64 n, .int .u8 (b : Int)], .int .i64 hv, .agg #[.int .i64 r0, .int .i64 r1, .int .i64 r2, .int .i64 r3]] w fun x w' => x = .returned (.tuple #[.int .i64 0, .int .i64 0, .agg #[.int .i64 r0, .int .i64 r1, .int .i64 r2, .int .i64 r3], .bool false]) ∧ Below w.heap.size w w' := by
  have HPL := Lib.hid (fun W => plain_any ⟨k, d, n, b⟩ W)
  rw [hpl] at HPL
  clear hpl
  go_enter Tryz.func24, Tryz.ntmps24
  go_wp2_with fail
  obtain ⟨q0, q1, q2, hb, hl⟩ := three_alloc w (.cells #[.int .i64 k, .int .i64 d, .int .i64 n, .int .u8 (b : Int)] 33) (.cells #[.int .i64 r0, .int .i64 r1, .int .i64 r2, .int .i64 r3] 57) (.cells #[.int .i64 0, .int .i64 0, .int .i64 0, .int .i64 0] 57)
  generalize ((w.alloc (.cells #[.int .i64 k, .int .i64 d, .int .i64 n, .int .u8 (b : Int)] 33)).alloc (.cells #[.int .i64 r0, .int .i64 r1, .int .i64 r2, .int .i64 r3] 57)).alloc (.cells #[.int .i64 0, .int .i64 0, .int .i64 0, .int .i64 0] 57) = W at *
  have HM0 := Lib.hid (show Mem w W w.heap.size ⟨k, d, n, b⟩ ⟨r0, r1, r2, r3⟩ from ⟨hb, rfl, q0, q1, q2⟩)
  clear hb q0 q1 q2 hl
  generalize w.heap.size = X at *
  refine (HPL.out _).mono ?_
  rintro x w1 ⟨rfl, hb1⟩
  have HM := Lib.hid (HM0.out.next hb1)
  obtain ⟨⟨p0, p1, p2, p3⟩, _, pl⟩ := four HM.out.hp
  obtain ⟨⟨a0, a1, a2, a3⟩, _, al⟩ := four HM.out.hr
  obtain ⟨⟨z0, z1, z2, z3⟩, ⟨f0, f1, f2, f3⟩, zl⟩ := four HM.out.hz
  clear hb1 HM0 HPL
  have HDN := Lib.hid (fun s => HM.out.done s)
  go_wp2_with fail
  go_region
  all_goals
    go_wp2_with fail
    refine bodyPost_ret (v := .tuple #[.int .i64 0, .int .i64 0, .agg #[.int .i64 r0, .int .i64 r1, .int .i64 r2, .int .i64 r3], .bool false]) ?_ rfl ?_
    · simp [results, Tryz.results24, go_sem, z0, z1, z2, z3]
    · exact ⟨rfl, (HDN.out ⟨r0, r1, r2, r3⟩).drew⟩
set_option maxRecDepth 100000 in
set_option maxHeartbeats 4000000 in
theorem fits_lit (d n : Int) (b : Nat) (hv r0 r1 r2 r3 : Int) (w : World) (hpl : (⟨1, d, n, b⟩ : Pt).plain = true)  :
    Calls Tryz.prog 24 #[.agg #[.int .i64 1, .int .i64 d, .int .i64 n, .int .u8 (b : Int)], .int .i64 hv, .agg #[.int .i64 r0, .int .i64 r1, .int .i64 r2, .int .i64 r3]] w fun x w' => x = .returned (.tuple #[.int .i64 0, .int .i64 1, .agg #[.int .i64 r0, .int .i64 r1, .int .i64 r2, .int .i64 r3], .bool true]) ∧ Below w.heap.size w w' := by
  have HPL := Lib.hid (fun W => plain_any ⟨1, d, n, b⟩ W)
  rw [hpl] at HPL
  clear hpl
  go_enter Tryz.func24, Tryz.ntmps24
  go_wp2_with fail
  obtain ⟨q0, q1, q2, hb, hl⟩ := three_alloc w (.cells #[.int .i64 1, .int .i64 d, .int .i64 n, .int .u8 (b : Int)] 33) (.cells #[.int .i64 r0, .int .i64 r1, .int .i64 r2, .int .i64 r3] 57) (.cells #[.int .i64 0, .int .i64 0, .int .i64 0, .int .i64 0] 57)
  generalize ((w.alloc (.cells #[.int .i64 1, .int .i64 d, .int .i64 n, .int .u8 (b : Int)] 33)).alloc (.cells #[.int .i64 r0, .int .i64 r1, .int .i64 r2, .int .i64 r3] 57)).alloc (.cells #[.int .i64 0, .int .i64 0, .int .i64 0, .int .i64 0] 57) = W at *
  have HM0 := Lib.hid (show Mem w W w.heap.size ⟨1, d, n, b⟩ ⟨r0, r1, r2, r3⟩ from ⟨hb, rfl, q0, q1, q2⟩)
  clear hb q0 q1 q2 hl
  generalize w.heap.size = X at *
  refine (HPL.out _).mono ?_
  rintro x w1 ⟨rfl, hb1⟩
  have HM := Lib.hid (HM0.out.next hb1)
  obtain ⟨⟨p0, p1, p2, p3⟩, _, pl⟩ := four HM.out.hp
  obtain ⟨⟨a0, a1, a2, a3⟩, _, al⟩ := four HM.out.hr
  obtain ⟨⟨z0, z1, z2, z3⟩, ⟨f0, f1, f2, f3⟩, zl⟩ := four HM.out.hz
  clear hb1 HM0 HPL
  have HDN := Lib.hid (fun s => HM.out.done s)
  go_wp2_with fail
  go_region
  all_goals
    go_wp2_with fail
    refine bodyPost_ret (v := .tuple #[.int .i64 0, .int .i64 1, .agg #[.int .i64 r0, .int .i64 r1, .int .i64 r2, .int .i64 r3], .bool true]) ?_ rfl ?_
    · simp [results, Tryz.results24, go_sem, z0, z1, z2, z3]
    · exact ⟨rfl, (HDN.out ⟨r0, r1, r2, r3⟩).drew⟩
set_option maxRecDepth 100000 in
set_option maxHeartbeats 4000000 in
theorem fits_match_far1 (d n : Int) (b : Nat) (hv r0 r1 r2 r3 : Int) (w : World) (hpl : (⟨2, d, n, b⟩ : Pt).plain = true) (c1 : ¬ 1 ≤ d) :
    Calls Tryz.prog 24 #[.agg #[.int .i64 2, .int .i64 d, .int .i64 n, .int .u8 (b : Int)], .int .i64 hv, .agg #[.int .i64 r0, .int .i64 r1, .int .i64 r2, .int .i64 r3]] w fun x w' => x = .returned (.tuple #[.int .i64 0, .int .i64 0, .agg #[.int .i64 r0, .int .i64 r1, .int .i64 r2, .int .i64 r3], .bool false]) ∧ Below w.heap.size w w' := by
  have HPL := Lib.hid (fun W => plain_any ⟨2, d, n, b⟩ W)
  rw [hpl] at HPL
  clear hpl
  go_enter Tryz.func24, Tryz.ntmps24
  go_wp2_with fail
  obtain ⟨q0, q1, q2, hb, hl⟩ := three_alloc w (.cells #[.int .i64 2, .int .i64 d, .int .i64 n, .int .u8 (b : Int)] 33) (.cells #[.int .i64 r0, .int .i64 r1, .int .i64 r2, .int .i64 r3] 57) (.cells #[.int .i64 0, .int .i64 0, .int .i64 0, .int .i64 0] 57)
  generalize ((w.alloc (.cells #[.int .i64 2, .int .i64 d, .int .i64 n, .int .u8 (b : Int)] 33)).alloc (.cells #[.int .i64 r0, .int .i64 r1, .int .i64 r2, .int .i64 r3] 57)).alloc (.cells #[.int .i64 0, .int .i64 0, .int .i64 0, .int .i64 0] 57) = W at *
  have HM0 := Lib.hid (show Mem w W w.heap.size ⟨2, d, n, b⟩ ⟨r0, r1, r2, r3⟩ from ⟨hb, rfl, q0, q1, q2⟩)
  clear hb q0 q1 q2 hl
  generalize w.heap.size = X at *
  refine (HPL.out _).mono ?_
  rintro x w1 ⟨rfl, hb1⟩
  have HM := Lib.hid (HM0.out.next hb1)
  obtain ⟨⟨p0, p1, p2, p3⟩, _, pl⟩ := four HM.out.hp
  obtain ⟨⟨a0, a1, a2, a3⟩, _, al⟩ := four HM.out.hr
  obtain ⟨⟨z0, z1, z2, z3⟩, ⟨f0, f1, f2, f3⟩, zl⟩ := four HM.out.hz
  clear hb1 HM0 HPL
  have HDN := Lib.hid (fun s => HM.out.done s)
  have e1 : decide (1 ≤ d) = false := by simpa using c1
  go_wp2_with fail
  all_goals
    go_region
    all_goals
      go_wp2_with fail
      refine bodyPost_ret (v := .tuple #[.int .i64 0, .int .i64 0, .agg #[.int .i64 r0, .int .i64 r1, .int .i64 r2, .int .i64 r3], .bool false]) ?_ rfl ?_
      · simp [results, Tryz.results24, go_sem, z0, z1, z2, z3]
      · exact ⟨rfl, (HDN.out ⟨r0, r1, r2, r3⟩).drew⟩
set_option maxRecDepth 100000 in
set_option maxHeartbeats 4000000 in
theorem fits_match_far2 (d n : Int) (b : Nat) (hv r0 r1 r2 r3 : Int) (w : World) (hpl : (⟨2, d, n, b⟩ : Pt).plain = true) (c1 : 1 ≤ d) (c2 : ¬ d ≤ min hv 1048576) :
    Calls Tryz.prog 24 #[.agg #[.int .i64 2, .int .i64 d, .int .i64 n, .int .u8 (b : Int)], .int .i64 hv, .agg #[.int .i64 r0, .int .i64 r1, .int .i64 r2, .int .i64 r3]] w fun x w' => x = .returned (.tuple #[.int .i64 0, .int .i64 0, .agg #[.int .i64 r0, .int .i64 r1, .int .i64 r2, .int .i64 r3], .bool false]) ∧ Below w.heap.size w w' := by
  have HPL := Lib.hid (fun W => plain_any ⟨2, d, n, b⟩ W)
  rw [hpl] at HPL
  clear hpl
  go_enter Tryz.func24, Tryz.ntmps24
  go_wp2_with fail
  obtain ⟨q0, q1, q2, hb, hl⟩ := three_alloc w (.cells #[.int .i64 2, .int .i64 d, .int .i64 n, .int .u8 (b : Int)] 33) (.cells #[.int .i64 r0, .int .i64 r1, .int .i64 r2, .int .i64 r3] 57) (.cells #[.int .i64 0, .int .i64 0, .int .i64 0, .int .i64 0] 57)
  generalize ((w.alloc (.cells #[.int .i64 2, .int .i64 d, .int .i64 n, .int .u8 (b : Int)] 33)).alloc (.cells #[.int .i64 r0, .int .i64 r1, .int .i64 r2, .int .i64 r3] 57)).alloc (.cells #[.int .i64 0, .int .i64 0, .int .i64 0, .int .i64 0] 57) = W at *
  have HM0 := Lib.hid (show Mem w W w.heap.size ⟨2, d, n, b⟩ ⟨r0, r1, r2, r3⟩ from ⟨hb, rfl, q0, q1, q2⟩)
  clear hb q0 q1 q2 hl
  generalize w.heap.size = X at *
  refine (HPL.out _).mono ?_
  rintro x w1 ⟨rfl, hb1⟩
  have HM := Lib.hid (HM0.out.next hb1)
  obtain ⟨⟨p0, p1, p2, p3⟩, _, pl⟩ := four HM.out.hp
  obtain ⟨⟨a0, a1, a2, a3⟩, _, al⟩ := four HM.out.hr
  obtain ⟨⟨z0, z1, z2, z3⟩, ⟨f0, f1, f2, f3⟩, zl⟩ := four HM.out.hz
  clear hb1 HM0 HPL
  have HDN := Lib.hid (fun s => HM.out.done s)
  go_wp2_with fail
  all_goals
    go_region
    all_goals
      go_wp2_with fail
      refine bodyPost_ret (v := .tuple #[.int .i64 0, .int .i64 0, .agg #[.int .i64 r0, .int .i64 r1, .int .i64 r2, .int .i64 r3], .bool false]) ?_ rfl ?_
      · simp [results, Tryz.results24, go_sem, z0, z1, z2, z3]
      · exact ⟨rfl, (HDN.out ⟨r0, r1, r2, r3⟩).drew⟩
set_option maxRecDepth 100000 in
set_option maxHeartbeats 4000000 in
theorem fits_match_len (d n : Int) (b : Nat) (hv r0 r1 r2 r3 : Int) (w : World) (hpl : (⟨2, d, n, b⟩ : Pt).plain = true) (c1 : 1 ≤ d) (e1 : d ≤ hv) (e2 : d ≤ 1048576) (hlen : lenB n = false) :
    Calls Tryz.prog 24 #[.agg #[.int .i64 2, .int .i64 d, .int .i64 n, .int .u8 (b : Int)], .int .i64 hv, .agg #[.int .i64 r0, .int .i64 r1, .int .i64 r2, .int .i64 r3]] w fun x w' => x = .returned (.tuple #[.int .i64 0, .int .i64 0, .agg #[.int .i64 r0, .int .i64 r1, .int .i64 r2, .int .i64 r3], .bool false]) ∧ Below w.heap.size w w' := by
  have HPL := Lib.hid (fun W => plain_any ⟨2, d, n, b⟩ W)
  rw [hpl] at HPL
  clear hpl
  go_enter Tryz.func24, Tryz.ntmps24
  go_wp2_with fail
  obtain ⟨q0, q1, q2, hb, hl⟩ := three_alloc w (.cells #[.int .i64 2, .int .i64 d, .int .i64 n, .int .u8 (b : Int)] 33) (.cells #[.int .i64 r0, .int .i64 r1, .int .i64 r2, .int .i64 r3] 57) (.cells #[.int .i64 0, .int .i64 0, .int .i64 0, .int .i64 0] 57)
  generalize ((w.alloc (.cells #[.int .i64 2, .int .i64 d, .int .i64 n, .int .u8 (b : Int)] 33)).alloc (.cells #[.int .i64 r0, .int .i64 r1, .int .i64 r2, .int .i64 r3] 57)).alloc (.cells #[.int .i64 0, .int .i64 0, .int .i64 0, .int .i64 0] 57) = W at *
  have HM0 := Lib.hid (show Mem w W w.heap.size ⟨2, d, n, b⟩ ⟨r0, r1, r2, r3⟩ from ⟨hb, rfl, q0, q1, q2⟩)
  clear hb q0 q1 q2 hl
  generalize w.heap.size = X at *
  refine (HPL.out _).mono ?_
  rintro x w1 ⟨rfl, hb1⟩
  have HM := Lib.hid (HM0.out.next hb1)
  obtain ⟨⟨p0, p1, p2, p3⟩, _, pl⟩ := four HM.out.hp
  obtain ⟨⟨a0, a1, a2, a3⟩, _, al⟩ := four HM.out.hr
  obtain ⟨⟨z0, z1, z2, z3⟩, ⟨f0, f1, f2, f3⟩, zl⟩ := four HM.out.hz
  clear hb1 HM0 HPL
  have HDN := Lib.hid (fun s => HM.out.done s)
  go_wp2_with (go_at_call 46; refine (len_any n _).mono ?_; rw [hlen]; rintro x w2 ⟨rfl, rfl⟩)
  all_goals
    go_region
    all_goals
      go_wp2_with fail
      refine bodyPost_ret (v := .tuple #[.int .i64 0, .int .i64 0, .agg #[.int .i64 r0, .int .i64 r1, .int .i64 r2, .int .i64 r3], .bool false]) ?_ rfl ?_
      · simp [results, Tryz.results24, go_sem, z0, z1, z2, z3]
      · exact ⟨rfl, (HDN.out ⟨r0, r1, r2, r3⟩).drew⟩
set_option maxRecDepth 100000 in
set_option maxHeartbeats 4000000 in
theorem fits_match (d n : Int) (b : Nat) (hv r0 r1 r2 r3 : Int) (w : World) (hpl : (⟨2, d, n, b⟩ : Pt).plain = true) (c1 : 1 ≤ d) (e1 : d ≤ hv) (e2 : d ≤ 1048576) (hlen : lenB n = true) :
    Calls Tryz.prog 24 #[.agg #[.int .i64 2, .int .i64 d, .int .i64 n, .int .u8 (b : Int)], .int .i64 hv, .agg #[.int .i64 r0, .int .i64 r1, .int .i64 r2, .int .i64 r3]] w fun x w' => x = .returned (.tuple #[.int .i64 d, .int .i64 n, .agg #[.int .i64 d, .int .i64 r0, .int .i64 r1, .int .i64 r2], .bool true]) ∧ Below w.heap.size w w' := by
  have HPL := Lib.hid (fun W => plain_any ⟨2, d, n, b⟩ W)
  rw [hpl] at HPL
  clear hpl
  go_enter Tryz.func24, Tryz.ntmps24
  go_wp2_with fail
  obtain ⟨q0, q1, q2, hb, hl⟩ := three_alloc w (.cells #[.int .i64 2, .int .i64 d, .int .i64 n, .int .u8 (b : Int)] 33) (.cells #[.int .i64 r0, .int .i64 r1, .int .i64 r2, .int .i64 r3] 57) (.cells #[.int .i64 0, .int .i64 0, .int .i64 0, .int .i64 0] 57)
  generalize ((w.alloc (.cells #[.int .i64 2, .int .i64 d, .int .i64 n, .int .u8 (b : Int)] 33)).alloc (.cells #[.int .i64 r0, .int .i64 r1, .int .i64 r2, .int .i64 r3] 57)).alloc (.cells #[.int .i64 0, .int .i64 0, .int .i64 0, .int .i64 0] 57) = W at *
  have HM0 := Lib.hid (show Mem w W w.heap.size ⟨2, d, n, b⟩ ⟨r0, r1, r2, r3⟩ from ⟨hb, rfl, q0, q1, q2⟩)
  clear hb q0 q1 q2 hl
  generalize w.heap.size = X at *
  refine (HPL.out _).mono ?_
  rintro x w1 ⟨rfl, hb1⟩
  have HM := Lib.hid (HM0.out.next hb1)
  obtain ⟨⟨p0, p1, p2, p3⟩, _, pl⟩ := four HM.out.hp
  obtain ⟨⟨a0, a1, a2, a3⟩, _, al⟩ := four HM.out.hr
  obtain ⟨⟨z0, z1, z2, z3⟩, ⟨f0, f1, f2, f3⟩, zl⟩ := four HM.out.hz
  clear hb1 HM0 HPL
  have HDN := Lib.hid (fun s => HM.out.done s)
  have HPU := Lib.hid (push_raw r0 r1 r2 r3 d w1.drew)
  go_wp2_with (go_at_call 46; refine (len_any n _).mono ?_; rw [hlen]; rintro x w2 ⟨rfl, rfl⟩)
  all_goals
    go_region_held3 (fun W => (W.cell? ⟨X, 1, none⟩ = some (.int .i64 d) ∧ W.cell? ⟨X, 2, none⟩ = some (.int .i64 n)) ∧ W.cell? ⟨X + 1, 0, none⟩ = some (.int .i64 r0) ∧ W.cell? ⟨X + 1, 1, none⟩ = some (.int .i64 r1) ∧ W.cell? ⟨X + 1, 2, none⟩ = some (.int .i64 r2) ∧ W.cell? ⟨X + 1, 3, none⟩ = some (.int .i64 r3)) (first | exact ⟨⟨p1, p2⟩, a0, a1, a2, a3⟩ | exact ⟨⟨pp1, pp2⟩, aa0, aa1, aa2, aa3⟩ | exact ⟨⟨(set_keep (k := X) (by omega) 1).trans pp1, (set_keep (k := X) (by omega) 2).trans pp2⟩, (set_keep (k := X + 1) (by omega) 0).trans aa0, (set_keep (k := X + 1) (by omega) 1).trans aa1, (set_keep (k := X + 1) (by omega) 2).trans aa2, (set_keep (k := X + 1) (by omega) 3).trans aa3⟩) ((go_at_call 47; (with_reducible refine HPU.out.mono ?_); rintro x w5 ⟨rfl, hb5⟩; have HM5 := Lib.hid (HM.out.drew.next hb5); obtain ⟨⟨pp0, pp1, pp2, pp3⟩, _, _⟩ := four HM5.out.hp; obtain ⟨⟨aa0, aa1, aa2, aa3⟩, _, _⟩ := four HM5.out.hr; obtain ⟨⟨zz0, zz1, zz2, zz3⟩, ⟨ff0, ff1, ff2, ff3⟩, zzl⟩ := four HM5.out.hz; clear hb5))
    all_goals
      have HDN5 := Lib.hid (fun s => HM5.out.done s)
      go_wp2_with fail
      refine bodyPost_ret (v := .tuple #[.int .i64 d, .int .i64 n, .agg #[.int .i64 d, .int .i64 r0, .int .i64 r1, .int .i64 r2], .bool true]) ?_ rfl ?_
      · simp [results, Tryz.results24, go_sem, zz0, zz1, zz2, zz3]
      · exact ⟨rfl, HDN5.out ⟨d, r0, r1, r2⟩⟩
set_option maxRecDepth 100000 in
set_option maxHeartbeats 4000000 in
theorem fits_short (d n : Int) (b : Nat) (hv r0 r1 r2 r3 : Int) (w : World) (hpl : (⟨4, d, n, b⟩ : Pt).plain = true) (c1 : r0 ≤ hv) :
    Calls Tryz.prog 24 #[.agg #[.int .i64 4, .int .i64 d, .int .i64 n, .int .u8 (b : Int)], .int .i64 hv, .agg #[.int .i64 r0, .int .i64 r1, .int .i64 r2, .int .i64 r3]] w fun x w' => x = .returned (.tuple #[.int .i64 r0, .int .i64 1, .agg #[.int .i64 r0, .int .i64 r1, .int .i64 r2, .int .i64 r3], .bool true]) ∧ Below w.heap.size w w' := by
  have HPL := Lib.hid (fun W => plain_any ⟨4, d, n, b⟩ W)
  rw [hpl] at HPL
  clear hpl
  go_enter Tryz.func24, Tryz.ntmps24
  go_wp2_with fail
  obtain ⟨q0, q1, q2, hb, hl⟩ := three_alloc w (.cells #[.int .i64 4, .int .i64 d, .int .i64 n, .int .u8 (b : Int)] 33) (.cells #[.int .i64 r0, .int .i64 r1, .int .i64 r2, .int .i64 r3] 57) (.cells #[.int .i64 0, .int .i64 0, .int .i64 0, .int .i64 0] 57)
  generalize ((w.alloc (.cells #[.int .i64 4, .int .i64 d, .int .i64 n, .int .u8 (b : Int)] 33)).alloc (.cells #[.int .i64 r0, .int .i64 r1, .int .i64 r2, .int .i64 r3] 57)).alloc (.cells #[.int .i64 0, .int .i64 0, .int .i64 0, .int .i64 0] 57) = W at *
  have HM0 := Lib.hid (show Mem w W w.heap.size ⟨4, d, n, b⟩ ⟨r0, r1, r2, r3⟩ from ⟨hb, rfl, q0, q1, q2⟩)
  clear hb q0 q1 q2 hl
  generalize w.heap.size = X at *
  refine (HPL.out _).mono ?_
  rintro x w1 ⟨rfl, hb1⟩
  have HM := Lib.hid (HM0.out.next hb1)
  obtain ⟨⟨p0, p1, p2, p3⟩, _, pl⟩ := four HM.out.hp
  obtain ⟨⟨a0, a1, a2, a3⟩, _, al⟩ := four HM.out.hr
  obtain ⟨⟨z0, z1, z2, z3⟩, ⟨f0, f1, f2, f3⟩, zl⟩ := four HM.out.hz
  clear hb1 HM0 HPL
  have HDN := Lib.hid (fun s => HM.out.done s)
  go_wp2_with fail
  all_goals
    go_region
    all_goals
      go_wp2_with fail
      refine bodyPost_ret (v := .tuple #[.int .i64 r0, .int .i64 1, .agg #[.int .i64 r0, .int .i64 r1, .int .i64 r2, .int .i64 r3], .bool true]) ?_ rfl ?_
      · simp [results, Tryz.results24, go_sem, z0, z1, z2, z3]
      · exact ⟨rfl, (HDN.out ⟨r0, r1, r2, r3⟩).drew⟩
set_option maxRecDepth 100000 in
set_option maxHeartbeats 4000000 in
theorem fits_short_far (d n : Int) (b : Nat) (hv r0 r1 r2 r3 : Int) (w : World) (hpl : (⟨4, d, n, b⟩ : Pt).plain = true) (c1 : ¬ r0 ≤ hv) :
    Calls Tryz.prog 24 #[.agg #[.int .i64 4, .int .i64 d, .int .i64 n, .int .u8 (b : Int)], .int .i64 hv, .agg #[.int .i64 r0, .int .i64 r1, .int .i64 r2, .int .i64 r3]] w fun x w' => x = .returned (.tuple #[.int .i64 0, .int .i64 0, .agg #[.int .i64 r0, .int .i64 r1, .int .i64 r2, .int .i64 r3], .bool false]) ∧ Below w.heap.size w w' := by
  have HPL := Lib.hid (fun W => plain_any ⟨4, d, n, b⟩ W)
  rw [hpl] at HPL
  clear hpl
  go_enter Tryz.func24, Tryz.ntmps24
  go_wp2_with fail
  obtain ⟨q0, q1, q2, hb, hl⟩ := three_alloc w (.cells #[.int .i64 4, .int .i64 d, .int .i64 n, .int .u8 (b : Int)] 33) (.cells #[.int .i64 r0, .int .i64 r1, .int .i64 r2, .int .i64 r3] 57) (.cells #[.int .i64 0, .int .i64 0, .int .i64 0, .int .i64 0] 57)
  generalize ((w.alloc (.cells #[.int .i64 4, .int .i64 d, .int .i64 n, .int .u8 (b : Int)] 33)).alloc (.cells #[.int .i64 r0, .int .i64 r1, .int .i64 r2, .int .i64 r3] 57)).alloc (.cells #[.int .i64 0, .int .i64 0, .int .i64 0, .int .i64 0] 57) = W at *
  have HM0 := Lib.hid (show Mem w W w.heap.size ⟨4, d, n, b⟩ ⟨r0, r1, r2, r3⟩ from ⟨hb, rfl, q0, q1, q2⟩)
  clear hb q0 q1 q2 hl
  generalize w.heap.size = X at *
  refine (HPL.out _).mono ?_
  rintro x w1 ⟨rfl, hb1⟩
  have HM := Lib.hid (HM0.out.next hb1)
  obtain ⟨⟨p0, p1, p2, p3⟩, _, pl⟩ := four HM.out.hp
  obtain ⟨⟨a0, a1, a2, a3⟩, _, al⟩ := four HM.out.hr
  obtain ⟨⟨z0, z1, z2, z3⟩, ⟨f0, f1, f2, f3⟩, zl⟩ := four HM.out.hz
  clear hb1 HM0 HPL
  have HDN := Lib.hid (fun s => HM.out.done s)
  have e1 : decide (r0 ≤ hv) = false := by simpa using c1
  go_wp2_with fail
  all_goals
    go_region
    all_goals
      go_wp2_with fail
      refine bodyPost_ret (v := .tuple #[.int .i64 0, .int .i64 0, .agg #[.int .i64 r0, .int .i64 r1, .int .i64 r2, .int .i64 r3], .bool false]) ?_ rfl ?_
      · simp [results, Tryz.results24, go_sem, z0, z1, z2, z3]
      · exact ⟨rfl, (HDN.out ⟨r0, r1, r2, r3⟩).drew⟩
end Go.Proofs.YtoneghmahdjgbaaGreat.Pk
end
