/-
  Package model: take: a packet that fits is told.
-/
import Derived.Test.YtfpoabeihpfeiaaGreatPk08
import Derived.Test.YtfpoabeihpfeiaaGreatPk28

set_option maxRecDepth 100000
set_option maxHeartbeats 16000000
set_option linter.unusedVariables false
set_option linter.unusedSimpArgs false
open Go.Lib (hid)
namespace Go.Proofs.YtfpoabeihpfeiaaGreat.Mo
open Go.RowKit
open Rc
open Pk (Rp Pt four alloc_kept2 bel_drew bel_alloc bel_new bel_set)
open Wnd (Win Grew Owns)
section
variable {w w' : World} {O : Paint} {cw k mo wb wm lc lp pb st : Nat} {most : Int} {v : Value} {m : Ms} {l l' : List UInt8} {r : Rp}
theorem ModAt.apart (h : ModAt w O cw mo wb v lc lp pb most wm l r st k) : mo ≠ wb /\ ∀ j, v.ownBlock = some j -> j ≠ mo := by
 constructor
 · rintro rfl
   have h1 := h.blk.1
   rw [h.win.1] at h1
   simp at h1
 · rintro j hj rfl
   rcases h.win.2.1.2 with ⟨e1, _⟩ | ⟨g', cap', cur, e1, _, hg, _⟩
   · rw [e1] at hj; simp [Value.ownBlock] at hj
   · rw [e1] at hj
     simp [Value.ownBlock] at hj
     subst hj
     have h1 := h.blk.1
     rw [hg] at h1
     simp only [Option.some.injEq, Obj.cells.injEq] at h1
     exact absurd h1.2.1 (by decide)
theorem ModAt.grew (h : ModAt w O cw mo wb v lc lp pb most wm l r st k) (hg : Grew w wb wm v l' w') : ∃ v' O', Step [cw] w O w' O' /\ ModAt w' O' cw mo wb v' lc lp pb most wm l' r st k := by
 obtain ⟨a1, a2⟩ := h.apart
 obtain ⟨v', hw, hf, hm⟩ := hg
 obtain ⟨o1, o2⟩ := h.wO
 have hs : Step [cw] w O w' (Step.paint O w cw) := ⟨hf.mono (fun j hj ho => by
  rcases ho with rfl | ho
  · simp [o1]
  · simp [(o2 _ ho).1]), fun j hj => Step.paint_old hj⟩
 refine ⟨v', _, hs, ⟨⟨?_, ?_⟩, hw, ⟨?_, ?_⟩, h.st12⟩⟩
 · exact (hf.block mo h.blk.lt (fun ho => by
    rcases ho with ho | ho
    · exact a1 ho
    · exact a2 _ ho rfl)).trans h.blk.1
 · rw [Step.paint_old h.blk.lt]; exact h.blk.2
 · rw [Step.paint_old h.win.lt]; exact o1
 · intro j hj
   rcases hm with e | e
   · rw [e] at hj
     exact ⟨(Step.paint_old (o2 j hj).2).trans (o2 j hj).1, Nat.lt_of_lt_of_le (o2 j hj).2 hf.size⟩
   · exact ⟨Step.paint_new (e j hj), ownsRow_lt hw.2.1 j hj⟩
theorem ModAt.told (h : ModAt w O cw mo wb v lc lp pb most wm l r st k) (r' : Rp) :
  ∃ W, ((((w.setCell ⟨mo, 5, none⟩ (.int .i64 r'.a)).setCell ⟨mo, 6, none⟩ (.int .i64 r'.b)).setCell ⟨mo, 7, none⟩ (.int .i64 r'.c)).setCell ⟨mo, 8, none⟩ (.int .i64 r'.d)) = W /\ Step [cw] w O W O /\ Frame (fun j => j = mo) w W /\ ModAt W O cw mo wb v lc lp pb most wm l r' st k := by
 obtain ⟨a1, a2⟩ := h.apart
 have hO := h.blk.2
 have hf : Frame (fun j => j = mo) w ((((w.setCell ⟨mo, 5, none⟩ (.int .i64 r'.a)).setCell ⟨mo, 6, none⟩ (.int .i64 r'.b)).setCell ⟨mo, 7, none⟩ (.int .i64 r'.c)).setCell ⟨mo, 8, none⟩ (.int .i64 r'.d)) :=
  ((((Frame.refl (fun j => j = mo) w).setCell (p := ⟨mo, 5, none⟩) (.inl rfl) _).setCell (p := ⟨mo, 6, none⟩) (.inl rfl) _).setCell (p := ⟨mo, 7, none⟩) (.inl rfl) _).setCell (p := ⟨mo, 8, none⟩) (.inl rfl) _
 have hs : Step [cw] w O ((((w.setCell ⟨mo, 5, none⟩ (.int .i64 r'.a)).setCell ⟨mo, 6, none⟩ (.int .i64 r'.b)).setCell ⟨mo, 7, none⟩ (.int .i64 r'.c)).setCell ⟨mo, 8, none⟩ (.int .i64 r'.d)) O := ⟨hf.mono (fun j _ e => by subst e; simp [hO]), fun _ _ => rfl⟩
 obtain ⟨o1, o2⟩ := h.wO
 refine ⟨_, rfl, hs, hf, ⟨⟨?_, hO⟩, h.win.frame hf (fun j hj e => ?_), ⟨o1, fun j hj => ⟨(o2 j hj).1, Nat.lt_of_lt_of_le (o2 j hj).2 hf.size⟩⟩, h.st12⟩⟩
 · have b1 := heap_setCell_same w _ 5 _ _ (.int .i64 r'.a) h.blk.1
   have b2 := heap_setCell_same _ _ 6 _ _ (.int .i64 r'.b) b1
   have b3 := heap_setCell_same _ _ 7 _ _ (.int .i64 r'.c) b2
   have b4 := heap_setCell_same _ _ 8 _ _ (.int .i64 r'.d) b3
   simpa using b4
 · subst e
   rcases hj with hj | hj
   · exact a1 hj
   · exact a2 _ hj rfl
theorem ModAt.next (h : ModAt w O cw mo wb v lc lp pb most wm l r st k) {st' : Nat} (hst : st' < 12) :
  ∃ W, w.setCell ⟨mo, 9, none⟩ (.int .i64 st') = W /\ Step [cw] w O W O /\ ModAt W O cw mo wb v lc lp pb most wm l r st' k := by
 obtain ⟨a1, a2⟩ := h.apart
 have hO := h.blk.2
 have hf : Frame (fun j => j = mo) w (w.setCell ⟨mo, 9, none⟩ (.int .i64 st')) := (Frame.refl (fun j => j = mo) w).setCell (p := ⟨mo, 9, none⟩) (.inl rfl) _
 have hs : Step [cw] w O (w.setCell ⟨mo, 9, none⟩ (.int .i64 st')) O := ⟨hf.mono (fun j _ e => by subst e; simp [hO]), fun _ _ => rfl⟩
 obtain ⟨o1, o2⟩ := h.wO
 refine ⟨_, rfl, hs, ⟨⟨?_, hO⟩, h.win.frame hf (fun j hj e => ?_), ⟨o1, fun j hj => ⟨(o2 j hj).1, Nat.lt_of_lt_of_le (o2 j hj).2 hf.size⟩⟩, hst⟩⟩
 · have b1 := heap_setCell_same w _ 9 _ _ (.int .i64 st') h.blk.1
   simpa using b1
 · subst e
   rcases hj with hj | hj
   · exact a1 hj
   · exact a2 _ hj rfl
theorem two_boxes (w : World) (cs ds : Array Value) (t u : TypeId) : Below w.heap.size w ((w.alloc (.cells cs t (0, 0))).alloc (.cells ds u (0, 0))) /\ ((w.alloc (.cells cs t (0, 0))).alloc (.cells ds u (0, 0))).heap[w.heap.size]? = some (.cells cs t (0, 0)) /\ ((w.alloc (.cells cs t (0, 0))).alloc (.cells ds u (0, 0))).heap[w.heap.size + 1]? = some (.cells ds u (0, 0)) := by
 refine ⟨((Below.refl _ _).alloc (Nat.le_refl _) _).alloc (by simp) _, ?_, ?_⟩
 · rw [Below.heap_alloc _ _ _ (by simp)]
   exact heap_alloc_new w _
 · have hR := heap_alloc_new (w.alloc (.cells cs t (0, 0))) (.cells ds u (0, 0))
   rw [World.size_alloc] at hR
   exact hR
theorem ModAt.alone (h : ModAt w O cw mo wb v lc lp pb most wm l r st k) {X : Nat} (hX : w.heap.size <= X) : X ≠ mo /\ ¬ Owns wb v X := by
 have h1 := h.blk.lt
 have h2 := h.win.lt
 refine ⟨by omega, ?_⟩
 rintro (e | e)
 · omega
 · have := (h.wO.2 X e).2; omega
theorem nxt_lt (s k : Int) (h0 : 0 <= s) (h1 : s <= 11) : 0 <= St.nxt s k /\ St.nxt s k <= 11 := by
 unfold St.nxt
 (repeat' split) <;> omega
theorem take_lit (hm : ModAt w O cw mo wb v m.lc m.lp m.pb most wm m.l m.r m.st k) (hwm : wm <= 1099511000000) (pd pn : Int) (b : Nat) (hb : b < 256) (hr : m.l.length < wm) (x : Int × Int × Rp) :
  Calls Tryz.prog 55 #[.pointer (some ⟨mo, 0, none⟩), .agg #[.int .i64 1, .int .i64 pd, .int .i64 pn, .int .u8 b], stepVal x] w fun e w' => e = .returned (.tuple #[]) /\ ∃ v' O', Step [cw] w O w' O' /\ ModAt w' O' cw mo wb v' m.lc m.lp m.pb most wm (m.l ++ [UInt8.ofNat b]) x.2.2 (St.nxt (m.st : Int) 1).toNat k := by
 obtain ⟨x1, x2, s⟩ := x
 unfold stepVal
 simp only
 have HX := hid (show (b : Int) = ((UInt8.ofNat b).toNat : Int) by simp; omega)
 obtain ⟨hb1, hP, hR⟩ := two_boxes w #[.int .i64 1, .int .i64 pd, .int .i64 pn, .int .u8 b] #[.int .i64 x1, .int .i64 x2, .int .i64 s.a, .int .i64 s.b, .int .i64 s.c, .int .i64 s.d] 37 109
 have hs1 := Step.of_below_same hb1 O
 have HM1 := hid (hm.step hs1 (by simp))
 have HS1 := hid hs1
 have HST := hid hm.st12
 have HM0 := hid hm
 clear hm
 clear hb1 hs1
 go_enter Tryz.func55, Tryz.ntmps55
 go_upto_region 2 with (fail)
 generalize (w.alloc (.cells #[.int .i64 1, .int .i64 pd, .int .i64 pn, .int .u8 b] 37)).alloc (.cells #[.int .i64 x1, .int .i64 x2, .int .i64 s.a, .int .i64 s.b, .int .i64 s.c, .int .i64 s.d] 109) = W1 at *
 generalize hPe : w.heap.size = P at *
 have HP := hid hP
 have HR := hid hR
 obtain ⟨⟨p0, p1, p2, p3⟩, _, _⟩ := four hP
 obtain ⟨_, _, _, _, c4, _, _, _, _, _, _⟩ := HM1.out.cells
 have HPut := hid (Wnd.put_of (HM1.out.drewN 1).win hr (by omega) (by omega) (UInt8.ofNat b) (b : Int) HX.out)
 clear hP hR HX
 go_still_tail 6, (by kernel_rfl)
 change wpList _ _ _ _ _ W1.drew
 go_wp2_with fail
 refine HPut.out.mono ?_
 rintro y w2 ⟨rfl, hg⟩
 have hf : Frame (Owns wb v) W1.drew w2 := by obtain ⟨_, _, hf, _⟩ := hg; exact hf
 have hPl := lt_of_heap HP.out
 have hRl := lt_of_heap HR.out
 have HP2 := hid ((hf.block P hPl (HM0.out.alone (Nat.le_of_eq hPe)).2).trans HP.out)
 have HR2 := hid ((hf.block (P + 1) hRl (HM0.out.alone (by omega)).2).trans HR.out)
 clear hf
 obtain ⟨v', O', hs2, hm2⟩ := (HM1.out.drewN 1).grew hg
 have HS2 := hid ((HS1.out.nil (cs := [cw])).trans (((Step.refl [cw] W1 O).drewN 1).trans hs2))
 have HM2 := hid hm2
 clear hs2 hm2 hg p0 p1 p2 p3 c4 HPut HP HR HM1 HS1
 go_upto_region 4 with (fail)
 obtain ⟨⟨r0, r1, r2, r3, r4, r5⟩, _⟩ := six HR2.out
 have hmoc := HM2.out.blk.1
 obtain ⟨_, _, _, _, _, c5, c6, c7, c8, c9, _⟩ := HM2.out.cells
 have fz : ∀ i, w2.frozen? ⟨mo, i, none⟩ = false := fun i => by simp [World.frozen?, hmoc]
 have f5 := fz 5
 have f6 := fz 6
 have f7 := fz 7
 have f8 := fz 8
 have f9 := fz 9
 clear fz hmoc
 have hne : P ≠ mo := (HM0.out.alone (Nat.le_of_eq hPe)).1
 go_upto_region 5 with (fail)
 obtain ⟨W4, hW, hs4, hf4, hm4⟩ := HM2.out.told s
 rw [hW]
 have HS4 := hid (HS2.out.trans hs4)
 have HM4 := hid hm4
 obtain ⟨⟨p0, p1, p2, p3⟩, _, _⟩ := four ((hf4.block P (lt_of_heap HP2.out) hne).trans HP2.out)
 clear hW hs4 hf4 hm4 HS2 HM2 HR2 HP2 r0 r1 r2 r3 r4 r5 c5 c6 c7 c8 c9 f5 f6 f7 f8 f9
 have hmoc := HM4.out.blk.1
 obtain ⟨_, _, _, _, _, c5, c6, c7, c8, c9, _⟩ := HM4.out.cells
 have f9 : W4.frozen? ⟨mo, 9, none⟩ = false := by simp [World.frozen?, hmoc]
 clear hmoc c5 c6 c7 c8
 have HNX := hid (show St.nxt (m.st : Int) 1 = (((St.nxt (m.st : Int) 1).toNat : Nat) : Int) by have := nxt_lt (m.st : Int) 1 (by omega) (by have := HST.out; omega); omega)
 have HST' := hid (show (St.nxt (m.st : Int) 1).toNat < 12 by have := nxt_lt (m.st : Int) 1 (by omega) (by have := HST.out; omega); omega)
 go_still_tail 8, (by kernel_rfl)
 still_call ((St.next_any (m.st : Int) 1 (by omega) (by have := HST.out; omega) _).mono (fun e w'' h => ⟨h.1, h.2.symm⟩))
 refine wpStill_nil ?_
 change wpList _ _ _ _ _ W4.drew
 have HM5 := hid (HM4.out.drewN 1)
 have HS5 := hid (HS4.out.drewN 1)
 have c9' : W4.drew.cell? ⟨mo, 9, none⟩ = some (.int .i64 m.st) := c9
 have f9' : W4.drew.frozen? ⟨mo, 9, none⟩ = false := f9
 clear c9 f9 HM4 HS4
 change Hid (ModAt W4.drew _ _ _ _ _ _ _ _ _ _ _ _ _ _) at HM5
 change Hid (Step _ _ _ W4.drew _) at HS5
 generalize W4.drew = W5 at *
 rw [HNX.out]
 obtain ⟨W6, hW6, hs6, hm6⟩ := HM5.out.next (st' := (St.nxt (m.st : Int) 1).toNat) HST'.out
 have HW6 := hid hW6
 have HM6 := hid hm6
 have HS6 := hid (HS5.out.trans hs6)
 clear hW6 hs6 hm6 HM5 HS5 HNX HST'
 generalize hst : (St.nxt (m.st : Int) 1).toNat = st' at *
 have HSN := hid hst
 clear hst
 go_wp2_with fail
 rw [HW6.out]
 first | go_end0 | (simp only [Exit.inBlock, Exit.then]; refine bodyPost_ret (results_none rfl _ _ _) rfl ?_) | refine bodyPost_ret (results_none rfl _ _ _) rfl ?_
 rw [HSN.out]
 exact ⟨rfl, _, _, HS6.out, HM6.out⟩
theorem take_copy (hm : ModAt w O cw mo wb v m.lc m.lp m.pb most wm m.l m.r m.st k) (hwm : wm <= 1099511000000) (pk pd pn : Int) (b : Nat) (hk : pk ≠ 1) (x : Int × Int × Rp) (h1 : 1 <= x.1) (h2 : x.1 <= m.l.length) (h3 : 0 <= x.2.1) (h4 : (m.l.length : Int) + x.2.1 <= wm) :
  Calls Tryz.prog 55 #[.pointer (some ⟨mo, 0, none⟩), .agg #[.int .i64 pk, .int .i64 pd, .int .i64 pn, .int .u8 b], stepVal x] w fun e w' => e = .returned (.tuple #[]) /\ ∃ v' O', Step [cw] w O w' O' /\ ModAt w' O' cw mo wb v' m.lc m.lp m.pb most wm (Wnd.copied m.l x.1.toNat x.2.1.toNat) x.2.2 (St.nxt (m.st : Int) pk).toNat k := by
 obtain ⟨x1, x2, s⟩ := x
 unfold stepVal
 simp only at h1 h2 h3 h4 ⊢
 obtain ⟨hb1, hP, hR⟩ := two_boxes w #[.int .i64 pk, .int .i64 pd, .int .i64 pn, .int .u8 b] #[.int .i64 x1, .int .i64 x2, .int .i64 s.a, .int .i64 s.b, .int .i64 s.c, .int .i64 s.d] 37 109
 have hs1 := Step.of_below_same hb1 O
 have HM1 := hid (hm.step hs1 (by simp))
 have HS1 := hid hs1
 have HST := hid hm.st12
 have HM0 := hid hm
 clear hm
 clear hb1 hs1
 go_enter Tryz.func55, Tryz.ntmps55
 go_upto_region 3 with (fail)
 generalize (w.alloc (.cells #[.int .i64 pk, .int .i64 pd, .int .i64 pn, .int .u8 b] 37)).alloc (.cells #[.int .i64 x1, .int .i64 x2, .int .i64 s.a, .int .i64 s.b, .int .i64 s.c, .int .i64 s.d] 109) = W1 at *
 generalize hPe : w.heap.size = P at *
 have HP := hid hP
 have HR := hid hR
 obtain ⟨⟨p0, p1, p2, p3⟩, _, _⟩ := four hP
 obtain ⟨_, _, _, _, c4, _, _, _, _, _, _⟩ := HM1.out.cells
 obtain ⟨⟨r0, r1, _⟩, _⟩ := six hR
 have HPut := hid (Wnd.copy_of (HM1.out.drewN 1).win x1.toNat x2.toNat x1 x2 (by omega) (by omega) (by omega) (by omega) (by omega) (by omega) (by omega))
 clear hP hR
 go_still_tail 8, (by kernel_rfl)
 change wpList _ _ _ _ _ W1.drew
 go_wp2_with fail
 refine HPut.out.mono ?_
 rintro y w2 ⟨rfl, hg⟩
 have hf : Frame (Owns wb v) W1.drew w2 := by obtain ⟨_, _, hf, _⟩ := hg; exact hf
 have hPl := lt_of_heap HP.out
 have hRl := lt_of_heap HR.out
 have HP2 := hid ((hf.block P hPl (HM0.out.alone (Nat.le_of_eq hPe)).2).trans HP.out)
 have HR2 := hid ((hf.block (P + 1) hRl (HM0.out.alone (by omega)).2).trans HR.out)
 clear hf
 obtain ⟨v', O', hs2, hm2⟩ := (HM1.out.drewN 1).grew hg
 have HS2 := hid ((HS1.out.nil (cs := [cw])).trans (((Step.refl [cw] W1 O).drewN 1).trans hs2))
 have HM2 := hid hm2
 clear hs2 hm2 hg p0 p1 p2 p3 r0 r1 c4 HPut HP HR HM1 HS1
 go_upto_region 4 with (fail)
 obtain ⟨⟨r0, r1, r2, r3, r4, r5⟩, _⟩ := six HR2.out
 have hmoc := HM2.out.blk.1
 obtain ⟨_, _, _, _, _, c5, c6, c7, c8, c9, _⟩ := HM2.out.cells
 have fz : ∀ i, w2.frozen? ⟨mo, i, none⟩ = false := fun i => by simp [World.frozen?, hmoc]
 have f5 := fz 5
 have f6 := fz 6
 have f7 := fz 7
 have f8 := fz 8
 have f9 := fz 9
 clear fz hmoc
 have hne : P ≠ mo := (HM0.out.alone (Nat.le_of_eq hPe)).1
 go_upto_region 5 with (fail)
 obtain ⟨W4, hW, hs4, hf4, hm4⟩ := HM2.out.told s
 rw [hW]
 have HS4 := hid (HS2.out.trans hs4)
 have HM4 := hid hm4
 obtain ⟨⟨p0, p1, p2, p3⟩, _, _⟩ := four ((hf4.block P (lt_of_heap HP2.out) hne).trans HP2.out)
 clear hW hs4 hf4 hm4 HS2 HM2 HR2 HP2 r0 r1 r2 r3 r4 r5 c5 c6 c7 c8 c9 f5 f6 f7 f8 f9
 have hmoc := HM4.out.blk.1
 obtain ⟨_, _, _, _, _, c5, c6, c7, c8, c9, _⟩ := HM4.out.cells
 have f9 : W4.frozen? ⟨mo, 9, none⟩ = false := by simp [World.frozen?, hmoc]
 clear hmoc c5 c6 c7 c8
 have HNX := hid (show St.nxt (m.st : Int) pk = (((St.nxt (m.st : Int) pk).toNat : Nat) : Int) by have := nxt_lt (m.st : Int) pk (by omega) (by have := HST.out; omega); omega)
 have HST' := hid (show (St.nxt (m.st : Int) pk).toNat < 12 by have := nxt_lt (m.st : Int) pk (by omega) (by have := HST.out; omega); omega)
 go_still_tail 8, (by kernel_rfl)
 still_call ((St.next_any (m.st : Int) pk (by omega) (by have := HST.out; omega) _).mono (fun e w'' h => ⟨h.1, h.2.symm⟩))
 refine wpStill_nil ?_
 change wpList _ _ _ _ _ W4.drew
 have HM5 := hid (HM4.out.drewN 1)
 have HS5 := hid (HS4.out.drewN 1)
 have c9' : W4.drew.cell? ⟨mo, 9, none⟩ = some (.int .i64 m.st) := c9
 have f9' : W4.drew.frozen? ⟨mo, 9, none⟩ = false := f9
 clear c9 f9 HM4 HS4
 change Hid (ModAt W4.drew _ _ _ _ _ _ _ _ _ _ _ _ _ _) at HM5
 change Hid (Step _ _ _ W4.drew _) at HS5
 generalize W4.drew = W5 at *
 rw [HNX.out]
 obtain ⟨W6, hW6, hs6, hm6⟩ := HM5.out.next (st' := (St.nxt (m.st : Int) pk).toNat) HST'.out
 have HW6 := hid hW6
 have HM6 := hid hm6
 have HS6 := hid (HS5.out.trans hs6)
 clear hW6 hs6 hm6 HM5 HS5 HNX HST'
 generalize hst : (St.nxt (m.st : Int) pk).toNat = st' at *
 have HSN := hid hst
 clear hst
 go_wp2_with fail
 rw [HW6.out]
 first | go_end0 | (simp only [Exit.inBlock, Exit.then]; refine bodyPost_ret (results_none rfl _ _ _) rfl ?_) | refine bodyPost_ret (results_none rfl _ _ _) rfl ?_
 rw [HSN.out]
 exact ⟨rfl, _, _, HS6.out, HM6.out⟩
end
end Go.Proofs.YtfpoabeihpfeiaaGreat.Mo
