/-
  The walk of the statement ContextLearns: for every order, cells and list it returns true, and writes nothing that was there.
-/
import Derived.Test.YtjeppcaniafgpaaLearnsTwo
import Derived.Test.YtjeppcaniafgpaaContextNil
import Derived.Test.YtjeppcaniafgpaaProbsPairs
import Derived.Test.YtjeppcaniafgpaaFreqSigns
import Derived.Test.YtjeppcaniafgpaaFreqCountsWalk
set_option linter.unusedVariables false
set_option linter.unusedSimpArgs false
namespace Go.Proofs.Ytjeppcaniafgpaa.Rx
open Go.RowKit
open Fq Rc
open Cx (Tl TOk Rw RwAt CM cols CxTo tok_len)
def both : List Nat := 40 :: cols 10
theorem both_below {w w' : World} {O' : Paint} (h : Step both w (fun _ => 0) w' O') : Below w.heap.size w w' := h.below (Nat.le_refl _) (fun k _ hk => by simp [both, cols] at hk)
theorem from_le (y P : Nat) (hy : y < 256) (hP : P ≤ 17) : wrap64 ((y : Int) % ((P : Int) - 1 + 2) - 1) ≤ (P : Int) - 1 := by
  have h1 : ((P : Int) - 1 + 2) = ((P + 1 : Nat) : Int) := by omega
  have h2 := Int.emod_lt_of_pos (y : Int) (b := ((P + 1 : Nat) : Int)) (by omega)
  have h3 := Int.emod_nonneg (y : Int) (b := ((P + 1 : Nat) : Int)) (by omega)
  rw [h1]
  generalize (y : Int) % ((P + 1 : Nat) : Int) = z at *
  unfold wrap64
  omega
set_option maxRecDepth 100000 in
set_option maxHeartbeats 8000000 in
theorem learns_walk (o n : Int) (a0 : Option Addr) (len cap : Nat) (w : World) (hl : IsPairs w a0 len) :
    Calls Try.prog 4 #[.int .i64 o, .int .i64 n, .slice a0 len cap] w fun x w' => x = .returned (.bool true) ∧ Below w.heap.size w w' := by
  have HIS := Lib.hid hl
  have HLEN := Lib.hid hl.1
  have HSP := Lib.hid (Cx.speaks18 w)
  clear hl
  go_enter Try.func4, Try.ntmps4
  go_wp2_with fail
  refine HSP.out.mono ?_
  rintro x w1 ⟨rfl, hb1⟩
  have HB1 := Lib.hid hb1
  have HNW := Lib.hid (Cx.new_rw o n w1 (fun _ => 0) 10)
  clear hb1 HSP
  go_wp2_with fail
  refine HNW.out.mono ?_
  rintro x w2 ⟨O2, d, m2, rfl, hs2, h2⟩
  have HNR := Lib.hid (new_dw o n w2 O2 40)
  have HS2 := Lib.hid hs2
  have H2 := Lib.hid h2
  clear hs2 h2 HNW
  go_wp2_with fail
  refine HNR.out.mono ?_
  rintro x w3 ⟨O3, e, mb3, D3, rfl, hs3, h3⟩
  have HT3 := Lib.hid (show TwoC w3 O3 d e m2 (Rw.new o n) mb3 D3 (rdNew o n) 0 from ⟨H2.out.idle hs3, h3, Cp.new o n, Nat.le_refl _, Nat.le_refl _, Nat.le_refl _⟩)
  have HS3 := Lib.hid ((HS2.out.trans hs3).nil (cs := both))
  clear hs3 h3 HNR HS2 H2
  go_upto_block 0 with (fail)
  go_cut [9, 10, 11, 12, 13, 14, 15, 16, 17, 18] from 28 to 139 (fun _ _ _ _ _ _ _ _ _ _ wc => Below w.heap.size w wc)
  case first =>
    go_wp2_with fail
    go_loopw [9] (fun i wr => ∃ (j : Nat) (O1 : Paint) (m1 : CM) (r1 : Rw) (mb : Nat) (D : Dv) (q : Rd), j ≤ len ∧ j ≤ 150 ∧ i = .int .i64 (j : Int) ∧ Step both w1 (fun _ => 0) wr O1 ∧ TwoC wr O1 d e m1 r1 mb D q j) (fun i _ => 150 - (intOf i).toNat)
    case atStart => exact ⟨0, O3, m2, _, mb3, D3, _, Nat.zero_le _, Nat.zero_le _, rfl, HS3.out, HT3.out⟩
    case round =>
      obtain ⟨j, O1, m1, r1, mb, D, q, hj, hj150, rfl, hs1, h1⟩ := hrel
      rename World => wo
      have HS1 := Lib.hid hs1
      have H1 := Lib.hid h1
      have hlen := HLEN.out
      unfold maxLen at hlen
      have HBW := Lib.hid (HB1.out.trans ((both_below hs1).mono HB1.out.size))
      clear HT3 HS3 hs1 h1
      by_cases hlt : j < len ∧ j < 150
      · as_aux_lemma =>
        obtain ⟨hlt, hlt2⟩ := hlt
        rcases HIS.out.2 with h0 | ⟨b, off, rfl, hbl, hact⟩
        · omega
        · have g1 : (j : Int) < (len : Int) := by omega
          have g2 : (j : Int) < 150 := by omega
          have g3 : decide ((j : Int) < 150) = true := decide_eq_true g2
          obtain ⟨x, y, hcx, hcy, hx, hy⟩ := hact j hlt
          have HCL := Lib.hid (fun (W : World) (hb : Below w.heap.size w W) => (⟨(hb.cell (p := ⟨b, off + j * 2, none⟩) hbl).trans hcx, (hb.cell (p := ⟨b, off + j * 2 + 1, none⟩) hbl).trans hcy, Nat.lt_of_lt_of_le hbl hb.size⟩ : W.cell? ⟨b, off + j * 2, none⟩ = some (.int .u8 (x : Int)) ∧ W.cell? ⟨b, off + j * 2 + 1, none⟩ = some (.int .u8 (y : Int)) ∧ b < W.heap.size))
          have HSB := Lib.hid (fun (W : World) (hs : Step [] wo O1 W O1) => show Below w.heap.size w W from HB1.out.trans ((both_below (HS1.out.trans hs.nil)).mono HB1.out.size))
          obtain ⟨qo1, qo2, qo3⟩ := H1.out.ord
          have hhq : q.hist.length ≤ 1000000 := by have := H1.out.hist; omega
          obtain ⟨LN, hLN⟩ : ∃ LN, LN = (r1.pth.length : Int) - 1 := ⟨_, rfl⟩
          have hp17 := H1.out.cp.ok.short.1
          have HLG := Lib.hid (Cx.longest_rw H1.out.dev)
          rw [← hLN] at HLG
          have HLR := Lib.hid (fun (W : World) (hs : Step [] wo O1 W O1) => show Calls Try.prog 19 #[.pointer (some ⟨e, 0, none⟩)] W fun x w' => x = .returned (.int .i64 LN) ∧ Step [] wo O1 w' O1 from by
            have := longest_dw (H1.out.idle hs).ref qo1 hhq
            rw [H1.out.cp.long, ← hLN] at this
            exact this.mono fun x w' ⟨e, hb⟩ => ⟨e, hs.trans (Step.of_below_same hb O1)⟩)
          obtain ⟨LF, hLF⟩ : ∃ LF, LF = (r1.cells : Int) - (r1.used : Int) := ⟨_, rfl⟩
          have HLD := Lib.hid (fun (W : World) (hs : Step [] wo O1 W O1) => show Calls Try.prog 20 #[.pointer (some ⟨d, 0, none⟩)] W fun x w' => x = .returned (.int .i64 LF) ∧ Step [] wo O1 w' O1 from by
            rw [hLF]
            exact (Cx.left_rw (H1.out.idle hs).dev).mono fun x w' ⟨e, q, hw⟩ => ⟨e, by rw [hw]; exact hs.drewN q⟩)
          have HLF := Lib.hid (fun (W : World) (hs : Step [] wo O1 W O1) => show Calls Try.prog 21 #[.pointer (some ⟨e, 0, none⟩)] W fun x w' => x = .returned (.int .i64 LF) ∧ Step [] wo O1 w' O1 from by
            rw [hLF, H1.out.cp.cells, H1.out.cp.u]
            exact (left_dw (H1.out.idle hs).ref qo3 qo2).mono fun x w' ⟨e, hb⟩ => ⟨e, hs.trans (Step.of_below_same hb O1)⟩)
          obtain ⟨RS, hRS⟩ : ∃ RS, RS = (r1.rs : Int) := ⟨_, rfl⟩
          have HRS := Lib.hid (fun (W : World) (hs : Step [] wo O1 W O1) => show Calls Try.prog 22 #[.pointer (some ⟨d, 0, none⟩)] W fun x w' => x = .returned (.int .i64 RS) ∧ Step [] wo O1 w' O1 from by
            rw [hRS]
            exact (Cx.restarts_rw (H1.out.idle hs).dev).mono fun x w' ⟨e, hw⟩ => ⟨e, by rw [← hw]; exact hs⟩)
          have HS := Lib.hid (fun (W : World) (hs : Step [] wo O1 W O1) => show Step [] wo O1 W O1 ∧ W.cell? ⟨e, 4, none⟩ = some (.int .i64 RS) from ⟨hs, by
            rw [hRS, H1.out.cp.rs]
            exact (five_at (H1.out.idle hs).ref.obj.1).2.2.2.2⟩)
          have HLNN := Lib.hid hLN
          clear hLN hLF hRS hact hcx hcy
          have b1 : (LN != LN) = false := by simp
          have b2 : (LF != LF) = false := by simp
          have b3 : (RS != RS) = false := by simp
          go_upto_region 8 with (refine HLG.out.mono ?_; rintro x w5 ⟨rfl, rfl⟩)
          go_cut [59] from 40 to 58 (fun v wc => v = .bool false ∧ Step [] wo O1 wc O1)
          case first =>
            have hq0 : Step [] wo O1 wo.drew O1 := (Step.refl [] wo O1).drew
            have hq1 : Step [] wo O1 (wo.drewN 1) O1 := (Step.refl [] wo O1).drewN 1
            go_region_held3 (fun W' => Step [] wo O1 W' O1 ∧ W'.cell? ⟨e, 4, none⟩ = some (.int .i64 RS)) (exact HS.out _ (by assumption)) (first | (go_at_call 19; (with_reducible refine (HLR.out _ (by assumption)).mono ?_); rintro z w6 ⟨rfl, hq6⟩) | (go_at_call 20; (with_reducible refine (HLD.out _ (by assumption)).mono ?_); rintro z w6 ⟨rfl, hq6⟩) | (go_at_call 21; (with_reducible refine (HLF.out _ (by assumption)).mono ?_); rintro z w6 ⟨rfl, hq6⟩) | (go_at_call 22; (with_reducible refine (HRS.out _ (by assumption)).mono ?_); rintro z w6 ⟨rfl, hq6⟩))
            all_goals
              go_wp2_with fail
              go_meet
              case rel => exact ⟨rfl, by assumption⟩
          case rest =>
            obtain ⟨rfl, hq⟩ := hcut
            have HQ := Lib.hid hq
            clear hq HLG HLR HLD HLF HRS HS b1 b2 b3
            go_wp2_with fail
            go_loopw [11] (fun i wz => ∃ κ : Nat, κ ≤ 19 ∧ i = .int .i64 ((κ : Int) - 1) ∧ Step [] wo O1 wz O1) (fun i _ => (18 - intOf i).toNat)
            case atStart => exact ⟨0, Nat.zero_le _, rfl, HQ.out⟩
            case round =>
              obtain ⟨κ, hκ, rfl, hq⟩ := hrel
              have HX := H1.out.idle hq
              clear HQ
              by_cases hk19 : κ < 19
              · as_aux_lemma =>
                have k1 : (κ : Int) - 1 ≤ 17 := by omega
                have k2 : (κ : Int) - 1 + 1 = ((κ + 1 : Nat) : Int) - 1 := by omega
                by_cases hin : 1 ≤ κ ∧ κ - 1 < r1.pth.length
                · obtain ⟨hk0, hkl⟩ := hin
                  obtain ⟨i, l, hi1, hi2⟩ := H1.out.cp.ok.at hkl
                  have hat : q.at' (κ - 1) = some l := by rw [H1.out.cp.at, hi1]; exact hi2
                  have hKI : ((κ - 1 : Nat) : Int) = (κ : Int) - 1 := by omega
                  have hok := H1.out.cp.ok.tab i l hi2
                  have hln : l.length ≤ 256 := tok_len hok.2.2
                  have hl0 : l ≠ [] := fun e => H1.out.cp.ne0 i (by rw [hi2, e])
                  have hlp : 0 < l.length := List.length_pos_iff.2 hl0
                  have HTD := Lib.hid (Cx.table_rw HX.dev hi1 hi2)
                  have HTR : Hid (∀ W, Step [] wo O1 W O1 → Calls Try.prog 24 #[.pointer (some ⟨e, 0, none⟩), .int .i64 ((κ : Int) - 1)] W fun x w' => ∃ x1 y1 x2 y2, x = .returned (.tuple #[.agg #[.slice (some ⟨x1, 0, none⟩) l.length y1, .slice (some ⟨x2, 0, none⟩) l.length y2], .bool true]) ∧ RefT W (.slice (some ⟨x1, 0, none⟩) l.length y1) (.slice (some ⟨x2, 0, none⟩) l.length y2) l ∧ Below W.heap.size W w') := Lib.hid (fun W hs => by
                    have := table_dw (H1.out.idle hs).ref qo1 hhq (κ - 1) (by omega)
                    rw [hat, hKI] at this
                    refine this.mono ?_
                    rintro x w' ⟨v1, v2, rfl, hr, hb⟩
                    obtain ⟨x1, y1, x2, y2, rfl, rfl, _⟩ := RefT.form (l := l) hr.ref.ref hlp
                    exact ⟨x1, y1, x2, y2, rfl, hr.ref.ref, hb⟩)
                  have HSG := Lib.hid (fun (W : World) (hs : Step [] wo O1 W O1) => signs_any ((H1.out.idle hs).dev.tabs.tab i l hi2) (fun x hx => by have := hok.2.2.1 x hx; omega) (by omega) 3 4)
                  have HOK : Hid (Tab 255 l) := Lib.hid (fun x hx => by have := hok.2.2.1 x hx; omega)
                  have HQ2 := Lib.hid hq
                  have k3 : κ + 1 ≤ 19 := by omega
                  have k4 : ((18 - κ : Nat) : Int) < 18 - ((κ : Int) - 1) := by omega
                  have k5 : IntKind.i64.wrap ((κ : Int) - 1 + 1) = ((κ + 1 : Nat) : Int) - 1 := by rw [k2, IntKind.wrap_i64]; omega
                  rw [hKI] at HTD
                  have K5 := Lib.hid k5
                  clear HX hq k2 hk19 hκ k5 hkl hok hi1 hi2 hat hKI
                  obtain ⟨KI, hKI⟩ : ∃ KI, KI = (κ : Int) - 1 := ⟨_, rfl⟩
                  have HKI := Lib.hid hKI
                  rw [← hKI] at HTD HTR k1 K5 k4 ⊢
                  clear hKI
                  have k6 := K5.out
                  generalize m1.tb i = tb at *
                  go_wp2_with fail
                  refine HTD.out.mono ?_
                  rintro x w5 ⟨rfl, nn, rfl⟩
                  have HQ5 := Lib.hid (HQ2.out.drewN nn)
                  generalize wr.drewN nn = w5 at *
                  go_wp2_with fail
                  refine (HTR.out _ HQ5.out).mono ?_
                  rintro x w6 ⟨x1, y1, x2, y2, rfl, hr, hb6⟩
                  have hb7 : Below w5.heap.size w5 (w6.alloc (.cells #[.slice (some ⟨x1, 0, none⟩) l.length y1, .slice (some ⟨x2, 0, none⟩) l.length y2] 53)) := bel_alloc _ hb6
                  have hX := heap_alloc_new w6 (.cells #[.slice (some ⟨x1, 0, none⟩) l.length y1, .slice (some ⟨x2, 0, none⟩) l.length y2] 53)
                  have hXs : w6.heap.size < (w6.alloc (.cells #[.slice (some ⟨x1, 0, none⟩) l.length y1, .slice (some ⟨x2, 0, none⟩) l.length y2] 53)).heap.size := by simp
                  have HR7 := Lib.hid (hr.below hb7)
                  have HQ7 := Lib.hid (HQ5.out.trans (Step.of_below_same hb7 O1))
                  clear hr hb6 hb7 HTD HTR HQ5
                  go_upto_region 18 with (fail)
                  generalize w6.alloc (.cells #[.slice (some ⟨x1, 0, none⟩) l.length y1, .slice (some ⟨x2, 0, none⟩) l.length y2] 53) = W7 at *
                  generalize w6.heap.size = X at *
                  go_wp2_with fail
                  refine (HSG.out _ HQ7.out).mono ?_
                  rintro x w7 ⟨sv1, sv2, rfl, g1, g2, O7, rfl, rfl, hS⟩
                  have hb8 : Below W7.heap.size W7 w7 := hS.step.below (Nat.le_refl _) (fun k _ hk => by cases hk)
                  obtain ⟨m0, m1', mf0, mf1, mlt⟩ := two ((hb8.block X hXs).trans hX)
                  have R8 := HR7.out.below hb8
                  obtain ⟨h1, h2⟩ := hS.all
                  have h1r := h1.row
                  have h2r := h2.row
                  have el1 : (u8s (l.map (·.1))).length = l.length := by simp [u8s]
                  have el2 : (i64s (l.map (·.2))).length = l.length := by simp [i64s]
                  rw [el1] at h1r
                  rw [el2] at h2r
                  have hL8 : ∀ x ∈ l.map (·.1), x < 256 := by
                    intro x hx
                    obtain ⟨y, hy, rfl⟩ := List.mem_map.1 hx
                    exact (HOK.out y hy).1
                  have cv1 := conv_row (L := l.map (·.1)) (c := l.length) (by rw [List.length_map]; exact h1r) hL8
                  rw [List.length_map] at cv1
                  have cv2 := conv_row (L := l.map (·.1)) (c := y1) (by rw [List.length_map]; exact R8.row1) hL8
                  rw [List.length_map] at cv2
                  have HR8 := Lib.hid R8
                  have H2R := Lib.hid h2r
                  have HQ8 := Lib.hid (HQ7.out.trans (Step.of_below_same hb8 O1))
                  generalize (⟨((l.map (·.1)).map UInt8.ofNat).toArray⟩ : ByteArray) = SS at *
                  clear hS h1 h2 h1r h2r el1 el2 hL8 R8 hb8 hX hXs HR7 HQ7 HSG
                  have hbb : ((l.length : Int) != (l.length : Int)) = false := by simp
                  go_wp2_with fail
                  clear cv1 cv2 hbb m0 mf0 mf1
                  go_loopw [17] (fun i wy => ∃ jj : Nat, jj ≤ l.length ∧ i = .int .i64 jj ∧ Below w7.heap.size w7 wy) (fun i _ => l.length - (intOf i).toNat)
                  case atStart => exact ⟨0, by omega, rfl, Below.refl _ _⟩
                  case round =>
                    obtain ⟨jj, hjj, rfl, hb⟩ := hrel
                    by_cases hlt3 : jj < l.length
                    · have R2 := HR8.out.row2
                      have hx2 := ownsRow_lt R2 x2 rfl
                      have G := Lib.hid (fun (W : World) (hW : Below w7.heap.size w7 W) => (⟨(hW.cell (p := ⟨X, 1, none⟩) mlt).trans m1', (hW.cell (p := ⟨x2, jj, none⟩) hx2).trans (row_cell R2 (snd_at l jj hlt3)), (hW.cell (p := ⟨g2, jj, none⟩) (ownsRow_lt H2R.out g2 rfl)).trans (row_cell H2R.out (snd_at l jj hlt3))⟩ : W.cell? ⟨X, 1, none⟩ = some (.slice (some ⟨x2, 0, none⟩) l.length y2) ∧ W.cell? ⟨x2, jj, none⟩ = some (.int .i64 ((at' l jj).2 : Int)) ∧ W.cell? ⟨g2, jj, none⟩ = some (.int .i64 ((at' l jj).2 : Int))))
                      have HB := Lib.hid hb
                      obtain ⟨d1, d2, d3⟩ := G.out _ hb
                      obtain ⟨t1, t2, t3⟩ := G.out _ (bel_drew hb)
                      generalize (at' l jj).2 = s2 at *
                      have q1 : (0 : Int) ≤ (jj : Int) := by omega
                      have q2 : (jj : Int) < (l.length : Int) := by omega
                      have q3 : (jj : Int).toNat = jj := by omega
                      have q4 : l.length - (jj + 1) < l.length - jj := by omega
                      have q5 : jj + 1 ≤ l.length := by omega
                      have q6 : ((s2 : Int) != (s2 : Int)) = false := by simp
                      obtain ⟨q7, q8, _⟩ := wr_up (n := jj) (by omega)
                      clear hb R2
                      go_wp2_with fail
                      go_region
                      all_goals
                        go_wp2_with fail
                        go_roundw
                        case rel => exact ⟨jj + 1, q5, by go_num, bel_drew HB.out⟩
                        case measure => simp [intOf]; exact q4
                    · obtain rfl : jj = l.length := by omega
                      have HB := Lib.hid (HQ8.out.trans (Step.of_below_same hb O1))
                      have q1 : ¬ ((l.length : Nat) : Int) < (l.length : Int) := by omega
                      clear hb
                      go_wp2_with fail
                      go_roundw
                      case rel => exact ⟨κ + 1, k3, by congr 1; omega, HB.out⟩
                      case measure => simp [intOf]; exact k4
                · have HTD := Lib.hid (Cx.table_no HX.dev ((κ : Int) - 1) (by omega))
                  have HTR : Hid (∀ W, Step [] wo O1 W O1 → Calls Try.prog 24 #[.pointer (some ⟨e, 0, none⟩), .int .i64 ((κ : Int) - 1)] W fun x w' => ∃ A1 n1 p1 A2 n2 p2, x = .returned (.tuple #[.agg #[.slice A1 n1 p1, .slice A2 n2 p2], .bool false]) ∧ Step [] wo O1 w' O1) := Lib.hid (fun W hs => by
                    by_cases h0 : κ = 0
                    · refine (table_neg (H1.out.idle hs).ref ((κ : Int) - 1) (by omega)).mono ?_
                      rintro x w' ⟨v1, v2, rfl, hr, hb⟩
                      obtain ⟨A1, p1, A2, p2, rfl, rfl⟩ := hr.shape
                      exact ⟨_, _, _, _, _, _, rfl, hs.trans (Step.of_below_same hb O1)⟩
                    · have := table_dw (H1.out.idle hs).ref qo1 hhq (κ - 1) (by omega)
                      rw [H1.out.cp.isSome, decide_eq_false (by omega), show ((κ - 1 : Nat) : Int) = (κ : Int) - 1 by omega] at this
                      refine this.mono ?_
                      rintro x w' ⟨v1, v2, rfl, hr, hb⟩
                      obtain ⟨A1, p1, A2, p2, rfl, rfl⟩ := hr.shape
                      exact ⟨_, _, _, _, _, _, rfl, hs.trans (Step.of_below_same hb O1)⟩)
                  have HQ2 := Lib.hid hq
                  have k3 : κ + 1 ≤ 19 := by omega
                  have k4 : ((18 - κ : Nat) : Int) < 18 - ((κ : Int) - 1) := by omega
                  have k5 : IntKind.i64.wrap ((κ : Int) - 1 + 1) = ((κ + 1 : Nat) : Int) - 1 := by rw [k2, IntKind.wrap_i64]; omega
                  have K5 := Lib.hid k5
                  clear HX hq k2 hin hk19 hκ k5
                  obtain ⟨KI, hKI⟩ : ∃ KI, KI = (κ : Int) - 1 := ⟨_, rfl⟩
                  have HKI := Lib.hid hKI
                  rw [← hKI] at HTD HTR k1 K5 k4 ⊢
                  clear hKI
                  have k6 := K5.out
                  go_wp2_with fail
                  refine HTD.out.mono ?_
                  rintro x w5 ⟨rfl, rfl⟩
                  go_wp2_with fail
                  refine (HTR.out _ HQ2.out).mono ?_
                  rintro x w6 ⟨A1, n1, p1, A2, n2, p2, rfl, hq6⟩
                  have HQ6 := Lib.hid hq6
                  clear hq6
                  go_wp2_with fail
                  go_roundw
                  case rel => exact ⟨κ + 1, k3, by congr 1; omega, HQ6.out.alloc _⟩
                  case measure => simp [intOf]; exact k4
              · obtain rfl : κ = 19 := by omega
                have HQ2 := Lib.hid hq
                have hbw := HSB.out _ hq
                obtain ⟨z1, z2, z3⟩ := HCL.out _ hbw
                have k1 : ¬ ((19 : Nat) : Int) - 1 ≤ 17 := by omega
                have HX := Lib.hid (show TwoC wr O1 d e m1 r1 mb D q j from H1.out.idle hq)
                have e1 : (0 : Int) ≤ (j : Int) := by omega
                have e2 : (j : Int) < (len : Int) := by omega
                have e3 : (j : Int).toNat = j := by omega
                have hln := HLNN.out
                have l1 : LN + 2 ≠ 0 := by omega
                have l2 : IntKind.i64.wrap (LN + 2) = LN + 2 := by rw [IntKind.wrap_i64]; omega
                have hq0 := hq
                clear hq hbw hk19 hκ HQ2
                have hFl := from_le y r1.pth.length hy hp17
                have HHQ := Lib.hid (hq0)
                clear hq0
                go_upto_region 27 with (fail)
                generalize wrap64 ((y : Int) % ((r1.pth.length : Int) - 1 + 2) - 1) = F at *
                have HL1 := Lib.hid (HX.out.learn1 (by omega) hx F)
                go_wp2_with fail
                refine HL1.out.mono ?_
                rintro z w4 ⟨rfl, O4, m4, hs4, h4, h4'⟩
                have HL2 := Lib.hid (two_learn HX.out (by omega) hx hFl h4 h4')
                have hs5 : Step both w1 (fun _ => 0) w4 O4 := (HS1.out.trans HHQ.out.nil).trans (hs4.mono (fun c hc => by simp [both]; exact .inr hc))
                obtain ⟨z1, z2, z3⟩ := HCL.out _ (HB1.out.trans ((both_below hs5).mono HB1.out.size))
                have HS5 := Lib.hid hs5
                clear hs4 h4 h4' hs5 HL1 HX
                go_wp2_with fail
                refine HL2.out.mono ?_
                rintro z w5 ⟨rfl, O5, mb5, D5, hs5, h5⟩
                have HS6 := Lib.hid (HS5.out.trans (hs5.mono (fun c hc => by simp [both] at hc ⊢; exact .inl hc)))
                have H6 := Lib.hid h5
                clear hs5 h5 HL2
                go_wp2_with fail
                go_roundw
                case rel => exact ⟨j + 1, O5, m4, _, mb5, D5, _, by omega, by omega, by go_num, HS6.out, H6.out⟩
                case measure => simp [intOf]; omega
      · by_cases g1 : (j : Int) < (len : Int)
        · have g2 : ¬ (j : Int) < 150 := by omega
          have g3 : decide ((j : Int) < 150) = false := decide_eq_false g2
          go_wp2_with fail
          go_meet
          case rel => exact HBW.out
        · have g2 : decide ((j : Int) < (len : Int)) = false := decide_eq_false g1
          go_wp2_with fail
          go_meet
          case rel => exact HBW.out
  case rest =>
    have HC := Lib.hid hcut
    clear hcut
    have HL := Lib.hid (Cx.learn_nil 1 (-1))
    go_wp2_with fail
    refine (HL.out _).mono ?_
    rintro x w4 ⟨rfl, rfl⟩
    go_wp2_with fail
    refine (Cx.longest_nil _).mono ?_
    rintro x w4 ⟨rfl, rfl⟩
    go_wp2_with fail
    refine (Cx.table_nil 0 _).mono ?_
    rintro x w4 ⟨rfl, rfl⟩
    go_wp2_with fail
    refine (Cx.left_nil _).mono ?_
    rintro x w4 ⟨rfl, rfl⟩
    go_wp2_with fail
    refine (Cx.restarts_nil _).mono ?_
    rintro x w4 ⟨rfl, rfl⟩
    go_wp2_with fail
    go_ret
    exact ⟨rfl, HC.out⟩
end Go.Proofs.Ytjeppcaniafgpaa.Rx
