/-
  Package context: the contract of makeTables (its walk).
-/
import Derived.Test.YteacmcckhjabmaaCtxMake
import Derived.Deep.RegionHeld3
import Derived.Deep.CutBlock
set_option linter.unusedVariables false
set_option linter.unusedSimpArgs false
namespace Go.Proofs.Yteacmcckhjabmaa.Cx
open Go.RowKit
open Rc Ar Fq
theorem infoN : (Try.prog.info? 3).map (fun i => (i.zero, i.size, i.bytes)) = some (some (.int .i64 0), 1, 8) := by kernel_rfl
section
variable {cs : List Nat} {w w' : World} {O O' : Paint} {b d : Nat} {m : CM} {r : Rw}
set_option maxRecDepth 100000 in
set_option maxHeartbeats 4000000 in
theorem make_any (h : RwAt w O b d m r) (hu : r.used + (r.hist.length + 1 - r.pth.length) ≤ r.cells) :
    Calls Try.prog 70 #[.pointer (some ⟨d, 0, none⟩)] w fun x w' => x = .returned (.tuple #[]) ∧ CxTo w O b d (r.growN (r.hist.length + 1 - r.pth.length)) w' := by
  obtain ⟨e0, e1, e2, e3, e4, e5⟩ := six_at h.obj.1
  obtain ⟨A4, p4, q4, _, _⟩ := sl_form h.pth
  rw [iv_len] at q4
  rw [q4] at e4
  have H := Lib.hid h
  obtain ⟨hl1, hl2⟩ := h.ok.short
  have hl3 := h.ok.len
  obtain ⟨i0, hi, hz0, hz1, hz2⟩ := info_parts infoN
  clear h e0 e1 e2 e3 e5 q4
  go_enter Try.func70, Try.ntmps70
  go_wp2_with fail
  clear e4
  go_loopw [2] (fun i wr => ∃ j : Nat, j ≤ r.hist.length + 1 - r.pth.length ∧ i = .int .i64 ((r.pth.length + j : Nat) : Int) ∧ CxTo w O b d (r.growN j) wr) (fun i _ => r.hist.length + 1 - (intOf i).toNat)
  case atStart => exact ⟨0, Nat.zero_le _, rfl, O, m, Step.refl _ _ _, H.out⟩
  case round =>
    obtain ⟨j, hj, rfl, O1, m1, hs1, h1⟩ := hrel
    obtain ⟨p1, p2, p3, p4', p5, p6⟩ := Rw.growN_parts r j
    have HG := Lib.hid (show r.growN (j + 1) = (r.growN j).grow from rfl)
    obtain ⟨f0, f1, f2, f3, f4, f5⟩ := six_at h1.obj.1
    obtain ⟨A3, q3, e3, _, _⟩ := sl_form h1.hist
    rw [bv_len, p2] at e3
    rw [e3] at f3
    have HS1 := Lib.hid hs1
    have H1 := Lib.hid h1
    by_cases hlt : j < r.hist.length + 1 - r.pth.length
    · as_aux_lemma =>
      have hus : (r.growN j).used < (r.growN j).cells := by omega
      have hlj : (r.growN j).pth.length = r.pth.length + j := p3
      have hjn : j + 1 ≤ r.hist.length + 1 - r.pth.length := by omega
      have hms : r.hist.length + 1 - (r.pth.length + (j + 1)) < r.hist.length + 1 - (r.pth.length + j) := by omega
      have hk16 : r.pth.length + j ≤ 16 := by omega
      have hkh : r.pth.length + j ≤ r.hist.length := by omega
      have g1 : ((r.pth.length + j : Nat) : Int) ≤ (r.hist.length : Int) := by omega
      have HN := Lib.hid (new_tab2 wr.drew O1 (b + 8))
      have HC1 := Lib.hid (fun W' O' (hs : Step [] wr O1 W' O') => (six_at (h1.obj.step hs (by simp)).1).2.1)
      have HC2 := Lib.hid (fun W' O' (hs : Step [b + 1, b + 2, b + 4] wr O1 W' O') => (six_at (h1.obj.step hs (by simp)).1).2.1)
      have hu1 : m1.z.used ≤ 1000000000 := by rw [h1.used]; have := h1.ok.used; have := h1.ok.cells.2; omega
      have hle1 : m1.z.left ≠ 0 := by
        unfold Aren.left
        rw [h1.free, h1.cells, h1.used]
        simp
        omega
      have hnx : m1.z.next = (r.growN j).used + 1 := by rw [(take_parts h1.free (.pointer none)).2.2.2.1, h1.used]
      have HT := Lib.hid (fun W' O' (hs : Step [] wr O1 W' O') tb => At.take_any (h1.ar.idle hs) hle1 hu1 (some ⟨tb, 0, none⟩))
      obtain ⟨U, hUU⟩ : ∃ U, U = (r.growN j).used + 1 := ⟨_, rfl⟩
      rw [hnx, ← hUU] at HT
      have HUU := Lib.hid hUU
      clear hUU
      clear p1 p3 p4' p5 p6 hs1 h1 e3 hu1 hle1 hlt hj hnx
      have HP2 := Lib.hid p2
      clear p2
      obtain ⟨k, hkk⟩ : ∃ k, k = r.pth.length + j := ⟨_, rfl⟩
      have HKK := Lib.hid hkk
      rw [← hkk] at g1 hk16 hkh hms hlj ⊢
      clear hkk
      go_wp2_with fail
      have f1' := f1
      go_region_held3 (fun W' => W'.cell? ⟨d, 1, none⟩ = some (.pointer (some ⟨m1.a, 0, none⟩))) (first | exact f1 | exact T0.out | go_keep) (first | (go_at_call 99; (with_reducible refine HN.out.mono ?_); rintro z1 w6 ⟨tb, rfl, O6, hs6, ht6, hge⟩; have T0 := Lib.hid (HC1.out _ _ ((Step.refl [] wr O1).drew.trans hs6)); have HT6 := Lib.hid ht6; have HS6 := Lib.hid ((Step.refl [] wr O1).drew.trans hs6); have HGE := Lib.hid hge; clear hs6 ht6 hge) | (go_at_call 98; (with_reducible refine (HT.out _ _ HS6.out _).mono ?_); rintro z1 w7 ⟨rfl, O7, B7, A7, vp7, vf7, hs7, hA7⟩; have T0 := Lib.hid (HC2.out _ _ (HS6.out.nil.trans hs7)); have HS7 := Lib.hid hs7; have HA7 := Lib.hid hA7; clear hs7 hA7))
      obtain ⟨hq1, hq2⟩ := H1.out.took hus HS6.out HT6.out HGE.out HS7.out HA7.out
      have HQ1 := Lib.hid (HS1.out.trans hq1)
      have HQ2 := Lib.hid hq2
      have hmap7 := H1.out.map.step (HS6.out.nil.trans HS7.out) (by simp)
      have HMAP := Lib.hid hmap7
      clear hq1 HS6 HT6 HGE HS7 HA7 HT HN HC1 HC2 T0 f0 f1 f1' f2 f3 f4 f5 hmap7
      generalize hm2 : (⟨m1.a, m1.mb, m1.z.take _, B7, A7, vp7, vf7, m1.vh, m1.vq, putN m1.tb _ _, putV m1.tv _ _⟩ : CM) = m2 at *
      have hmb : m2.mb = m1.mb := by rw [← hm2]
      rw [← hmb] at HMAP
      clear hm2 hmb
      have hU : ((r.growN j).g1.K ((r.growN j).used + 1)).isSome = true := by
        show (putK _ _ _ _).isSome = true
        unfold putK
        rw [if_pos rfl]
        rfl
      have HU := Lib.hid hU
      have hbu : (r.growN j).used + 1 ≤ 1048577 := by have := H1.out.ok.used; have := H1.out.ok.cells.2; omega
      obtain ⟨f0, f1, f2, f3, f4, f5⟩ := six_at hq2.obj.1
      have hg1 : (r.growN j).g1.pth.length = k := hlj
      have hg2 : (r.growN j).g1.hist = r.hist := HP2.out
      have HL1 := Lib.hid hg1
      have HL2 := Lib.hid hg2
      by_cases hk0 : k = 0
      · have g0 : decide ((0 : Int) < (k : Int)) = false := by rw [decide_eq_false_iff_not]; omega
        have g00 : decide (0 < k) = false := by rw [decide_eq_false_iff_not]; omega
        have g01 : ¬ 0 < k := by omega
        have hgr : r.growN (j + 1) = (r.growN j).g1.g3 ((r.growN j).used + 1) := by rw [HG.out, Rw.grow_zero (by rw [hlj]; exact hk0)]
        have HGR := Lib.hid hgr
        clear hk0 hgr hq2 hU hlj hg1 hg2 hus
        rw [← HUU.out] at HU HGR
        generalize (r.growN j).g1 = rj at *
        have HROW := Lib.hid HQ2.out.pth.row
        rw [iv_len, HL1.out] at HROW
        have HPU := Lib.hid (fun (W3 : World) (g cap : Nat) (o : Obj) => HQ2.out.pushed (W3 := W3) (g := g) (cap := cap) (o := o) HU.out (by rw [HL1.out, HL2.out]; exact hkh))
        rw [HL1.out] at HPU
        have hb1 : k + 1 ≤ maxLen := by unfold maxLen; omega
        have hb2 : (k + 1) * 8 ≤ 140737488355328 := by omega
        go_wp2_with (at_builtin; refine wpList_append_one _ rfl _ _ 35 rfl 3 i0 (.int .i64 0) 1 8 Try.underlying35 hi hz0 hz1 hz2 rfl (by decide) m2.vq _ _ rfl (HROW.out.alloc _) ⟨w7.heap.size, 0, none⟩ 1 [.int .i64 (U : Int)] rfl rfl (one_new _ _ _) (by intro u hu; simp at hu; subst hu; rfl) hb1 hb2 ?_; intro g cap w9 hown hgr hmv; obtain ⟨⟨c4, c5⟩, c6, c7⟩ := HPU.out w9 g cap _ hown hgr hmv; have HFIN := Lib.hid (show CxTo w O b d (r.growN (j + 1)) _ from by rw [HGR.out]; exact ⟨_, _, HQ1.out.trans c6, c7⟩); clear hown hgr hmv c6 c7)
        go_roundw
        case rel => exact ⟨j + 1, hjn, by rw [HKK.out]; go_num, HFIN.out⟩
        case measure => simp [intOf]; omega
      · have g0 : decide ((0 : Int) < (k : Int)) = true := by rw [decide_eq_true_eq]; omega
        have g00 : decide (0 < k) = true := by rw [decide_eq_true_eq]; omega
        have g01 : 0 < k := by omega
        obtain ⟨p, hp⟩ : ∃ p, (r.growN j).pth[k - 1]? = some p := ⟨_, List.getElem?_eq_getElem (by omega)⟩
        obtain ⟨y, hy⟩ : ∃ y, (r.growN j).hist[(r.growN j).hist.length - k]? = some y := ⟨_, List.getElem?_eq_getElem (by have := congrArg List.length HP2.out; omega)⟩
        have hgr : r.growN (j + 1) = ((r.growN j).g1.g2 p y ((r.growN j).used + 1)).g3 ((r.growN j).used + 1) := by rw [HG.out, Rw.grow_more (p := p) (y := y) (by omega) (by rw [hlj]; exact hp) (by rw [hlj]; exact hy)]
        have HGR := Lib.hid hgr
        have hpx : p < 1000000000 := by
          have h1 := H1.out.ok.pth p (List.mem_of_getElem? hp)
          obtain ⟨l, hl⟩ := Option.isSome_iff_exists.1 h1
          have := (H1.out.ok.tab p l hl).2.1
          omega
        have hyx : y < 256 := H1.out.ok.hist.2 y (List.mem_of_getElem? hy)
        have HST := Lib.hid (step_any (HQ2.out.idle (Step.refl [] w7 O7).drew) (k := k) (p := p) (y := y) (by omega) hp (by rw [hg2]; exact hkh) hy)
        have HC8 := Lib.hid (fun (W : World) (hb : Below w7.drew.heap.size w7.drew W) => show Step [] w7 O7 W O7 from (Step.refl [] w7 O7).drew.trans (Step.of_below_same hb O7))
        have HC2 := Lib.hid (fun W O' (hs : Step [b + 7] w7 O7 W O') => (six_at (HQ2.out.obj.step hs (by simp)).1).2.2.1)
        have hUb : (r.growN j).used ≤ 100000000 := by omega
        have HSET := Lib.hid (fun (W : World) (hs : Step [] w7 O7 W O7) => (HMAP.out.step hs (by simp)).set hUb hpx hyx (i := (r.growN j).used + 1) (by omega))
        rw [← HUU.out] at HU HGR HSET
        have HMP := Lib.hid (fun (W W' : World) (h0 : Step [] w7 O7 W O7) (h1 : Step [b + 7] W O7 W' O7) (h2 : StepAt W' O7 (b + 7) m2.mb U (fset (r.growN j).f p y U)) => (HQ2.out.idle h0).mapped (x := p) (y := y) (i := U) (N := U) h1 h2 (by rw [HUU.out]; exact Nat.le_refl _) HU.out)
        clear hk0 hgr hq2 hU hlj hg1 hg2 hus hp hy hpx hyx hUb HQ2
        have f2' := f2
        go_wp2_with fail
        go_region_held3 (fun W' => W'.cell? ⟨d, 2, none⟩ = some (.map (some m2.mb))) (first | exact f2 | exact T0.out | exact T1.out | go_keep) (first | (go_at_call 100; (with_reducible refine HST.out.mono ?_); rintro z1 w8 ⟨rfl, hb8⟩; have hs8 := HC8.out _ hb8; have T0 := Lib.hid (HC2.out _ _ hs8.nil); have HS8 := Lib.hid hs8; obtain ⟨w9, hrun, hs9, hm9⟩ := HSET.out _ hs8; have T1 := Lib.hid (HC2.out _ _ (hs8.nil.trans hs9)); have HS9 := Lib.hid hs9; have HM9 := Lib.hid hm9; clear hb8 hs8 hs9 hm9))
        have hm9 := HM9.out
        obtain ⟨ha9, hb9⟩ := HMP.out w8 w9 HS8.out HS9.out hm9
        have HQ3 := Lib.hid (HQ1.out.trans (HS8.out.nil.trans ha9))
        have HQ4 := Lib.hid hb9
        have hL1 : ((r.growN j).g1.g2 p y U).pth.length = k := HL1.out
        have hL2 : ((r.growN j).g1.g2 p y U).hist = r.hist := HL2.out
        have hU4 : (((r.growN j).g1.g2 p y U).K U).isSome = true := HU.out
        have HL3 := Lib.hid hL1
        have HL4 := Lib.hid hL2
        have HU4 := Lib.hid hU4
        clear hm9 ha9 hb9 hL1 hL2 hU4 HM9 HS8 HS9 T0 T1 HMP HSET HC2 HC8 HST HL1 HL2 HU hrun f0 f1 f2 f2' f3 f4 f5 HMAP HQ1
        generalize (r.growN j).g1.g2 p y U = rj at *
        have HROW := Lib.hid HQ4.out.pth.row
        rw [iv_len, HL3.out] at HROW
        have HPU := Lib.hid (fun (W3 : World) (g cap : Nat) (o : Obj) => HQ4.out.pushed (W3 := W3) (g := g) (cap := cap) (o := o) HU4.out (by rw [HL3.out, HL4.out]; exact hkh))
        rw [HL3.out] at HPU
        obtain ⟨f0, f1, f2, f3, f4, f5⟩ := six_at HQ4.out.obj.1
        have hb1 : k + 1 ≤ maxLen := by unfold maxLen; omega
        have hb2 : (k + 1) * 8 ≤ 140737488355328 := by omega
        go_wp2_with (at_builtin; refine wpList_append_one _ rfl _ _ 35 rfl 3 i0 (.int .i64 0) 1 8 Try.underlying35 hi hz0 hz1 hz2 rfl (by decide) m2.vq _ _ rfl (HROW.out.alloc _) ⟨w9.heap.size, 0, none⟩ 1 [.int .i64 (U : Int)] rfl rfl (one_new _ _ _) (by intro u hu; simp at hu; subst hu; rfl) hb1 hb2 ?_; intro g cap w10 hown hgr hmv; obtain ⟨⟨c4, c5⟩, c6, c7⟩ := HPU.out w10 g cap _ hown hgr hmv; have HFIN := Lib.hid (show CxTo w O b d (r.growN (j + 1)) _ from by rw [HGR.out]; exact ⟨_, _, HQ3.out.trans c6, c7⟩); clear hown hgr hmv c6 c7)
        go_roundw
        case rel => exact ⟨j + 1, hjn, by rw [HKK.out]; go_num, HFIN.out⟩
        case measure => simp [intOf]; omega
    · obtain rfl : j = r.hist.length + 1 - r.pth.length := by omega
      have g1 : ¬ ((r.pth.length + (r.hist.length + 1 - r.pth.length) : Nat) : Int) ≤ (r.hist.length : Int) := by omega
      have HFIN := Lib.hid (show CxTo w O b d (r.growN (r.hist.length + 1 - r.pth.length)) wr from ⟨O1, m1, HS1.out, H1.out⟩)
      clear p1 p2 p3 p4' p5 p6 hs1 h1 e3 hlt hj
      generalize r.pth.length + (r.hist.length + 1 - r.pth.length) = k at *
      go_wp2_with fail
      first | go_end0 | (simp only [Exit.inBlock, Exit.then]; refine bodyPost_ret (results_none rfl _ _ _) rfl ?_) | refine bodyPost_ret (results_none rfl _ _ _) rfl ?_
      exact ⟨rfl, HFIN.out⟩
end
end Go.Proofs.Yteacmcckhjabmaa.Cx
