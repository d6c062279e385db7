/-
  Package context: the contract of Learn.
-/
import Derived.Test.YteacmcckhjabmaaCtxSums
import Derived.Test.YteacmcckhjabmaaCtxAdd
import Derived.Test.YteacmcckhjabmaaCtxFind
set_option linter.unusedVariables false
set_option linter.unusedSimpArgs false
namespace Go.Proofs.Yteacmcckhjabmaa.Cx
open Go.RowKit
open Rc Ar Fq
section
variable {cs : List Nat} {w w' : World} {O O' : Paint} {b d : Nat} {m : CM} {r : Rw}
set_option maxRecDepth 100000 in
set_option maxHeartbeats 4000000 in
theorem learn_any (h : RwAt w O b d m r) {s : Nat} (hs : s < 256) (k : Int) (hrs : r.rs ≤ 1000000000) :
    Calls Try.prog 33 #[.pointer (some ⟨d, 0, none⟩), .int .u8 (s : Int), .int .i64 k] w fun x w' => x = .returned (.tuple #[]) ∧ CxTo w O b d (r.learn s k) w' := by
  have HL := Lib.hid (longest_rw h)
  have H := Lib.hid h
  clear h
  go_enter Try.func33, Try.ntmps33
  go_upto_region 1 with (fail)
  go_cut [2] from 9 to 13 (fun v wc => v = .int .i64 (r.start k : Int) ∧ wc = w)
  case first =>
    go_wp2_with fail
    refine HL.out.mono ?_
    rintro x w1 ⟨rfl, rfl⟩
    go_wp2_with fail
    all_goals
      go_meet
      case rel =>
        refine ⟨?_, rfl⟩
        show Value.int .i64 _ = _
        congr 1
        unfold Rw.start
        omega
  case rest =>
    obtain ⟨rfl, hwc⟩ := hcut
    subst wc
    obtain ⟨a, ha⟩ : ∃ a, a = r.start k := ⟨_, rfl⟩
    have hap : a ≤ r.pth.length := by rw [ha]; exact Rw.start_le r k
    have HAA := Lib.hid ha
    rw [← ha]
    clear ha
    obtain ⟨e0, e1, e2, e3, e4, e5⟩ := six_at H.out.obj.1
    have HND := Lib.hid (needs_any (H.out.idle (Step.refl [] w O).drew) hs hap)
    have HC := Lib.hid (fun W (h0 : Step [] w O W O) => (six_at (H.out.obj.step h0 (by simp)).1).2.1)
    have HLF : Hid (∀ W, Step [] w O W O → Calls Try.prog 68 #[.pointer (some ⟨m.a, 0, none⟩)] W fun x w' => x = .returned (.int .i64 ((r.cells : Int) - (r.used : Int))) ∧ ∃ n, w' = W.drewN n) := Lib.hid (fun W h0 => by
      have := At.left_any (H.out.ar.idle h0)
      have e : m.z.left = (r.cells : Int) - (r.used : Int) := by
        unfold Aren.left
        rw [H.out.free, H.out.cells, H.out.used]
        simp
      rw [e] at this
      exact this)
    have HBS := Lib.hid (fun (W : World) (hb : Below w.drew.heap.size w.drew W) => show Step [] w O W O from (Step.refl [] w O).drew.trans (Step.of_below_same hb O))
    clear HL
    go_wp2_with fail
    go_region_held3 (fun W' => W'.cell? ⟨d, 1, none⟩ = some (.pointer (some ⟨m.a, 0, none⟩))) (first | exact e1 | exact T0.out | exact T1.out | go_keep) (first | (go_at_call 67; (with_reducible refine HND.out.mono ?_); rintro z1 w6 ⟨rfl, hb6⟩; have hs6 := HBS.out _ hb6; have T0 := Lib.hid (HC.out _ hs6); have HS6 := Lib.hid hs6; clear hb6 hs6) | (go_at_call 68; (with_reducible refine (HLF.out _ HS6.out).mono ?_); rintro z1 w7 ⟨rfl, n7, rfl⟩; have hs7 := HS6.out.drewN n7; have T1 := Lib.hid (HC.out _ hs7); have HS7 := Lib.hid hs7; clear hs7))
    clear T0 T1 HLF HND HC HBS HS6 e0 e1 e2 e3 e4 e5
    generalize w6.drewN n7 = w7 at *
    obtain ⟨NEED, hneed⟩ : ∃ n, n = r.needs s a := ⟨_, rfl⟩
    have HNE := Lib.hid hneed
    rw [← hneed]
    clear hneed
    have hful : r.full s a = decide (r.cells < r.used + NEED) := by unfold Rw.full; rw [HNE.out]
    have HFU := Lib.hid hful
    have HRS := Lib.hid (restart_any (H.out.idle HS7.out) hrs)
    clear hful
    go_upto_if 23 with (fail)
    go_cut [2] from 23 to 25 (fun v wd => ∃ (a1 : Nat) (r1 : Rw) (O1 : Paint) (m1 : CM), v = .int .i64 (a1 : Int) ∧ Step (cols b) w O wd O1 ∧ RwAt wd O1 b d m1 r1 ∧ a1 ≤ r1.pth.length ∧ r1.used + r1.needs s a1 ≤ r1.cells ∧ r.learn s k = r1.learn1 s a1)
    case first =>
      by_cases hf : r.cells < r.used + NEED
      · have g1 : decide ((r.cells : Int) - (r.used : Int) < (NEED : Int)) = true := by rw [decide_eq_true_eq]; omega
        have g2 : (r.cells : Int) - (r.used : Int) < (NEED : Int) := by omega
        have hlr : r.learn s k = r.forget.learn1 s 0 := by unfold Rw.learn; rw [← HAA.out, HFU.out, decide_eq_true hf]; rfl
        have HLR := Lib.hid hlr
        have HCE := Lib.hid H.out.ok.cells.1
        clear hf hlr
        go_wp2_with fail
        refine HRS.out.mono ?_
        rintro x w8 ⟨rfl, m8, hs8, h8⟩
        have HS8 := Lib.hid (HS7.out.nil.trans hs8)
        have H8 := Lib.hid h8
        clear hs8 h8
        go_wp2_with fail
        go_meet
        case rel => exact ⟨0, r.forget, O, m8, rfl, HS8.out, H8.out, Nat.zero_le _, by have := HCE.out; show 0 + (2 * (0 + 1 - 0) + 0) ≤ r.cells; omega, HLR.out⟩
      · have g1 : decide ((r.cells : Int) - (r.used : Int) < (NEED : Int)) = false := by rw [decide_eq_false_iff_not]; omega
        have g2 : ¬ (r.cells : Int) - (r.used : Int) < (NEED : Int) := by omega
        have hlr : r.learn s k = r.learn1 s a := by unfold Rw.learn; rw [← HAA.out, HFU.out, decide_eq_false hf]; rfl
        have HLR := Lib.hid hlr
        have hle : r.used + r.needs s a ≤ r.cells := by rw [← HNE.out]; omega
        have HLE := Lib.hid hle
        clear hf hlr hle
        go_wp2_with fail
        go_meet
        case rel => exact ⟨a, r, O, m, rfl, HS7.out.nil, H.out.idle HS7.out, hap, HLE.out, HLR.out⟩
    case rest =>
      clear HRS HFU HNE hap HAA HS7
      obtain ⟨a1, r1, O1, m1, rfl, hs1, h1, ha1, hu1, hlr⟩ := hcut
      obtain ⟨room1, room2⟩ := Rw.learn_room h1.ok ha1 hu1
      have HMK := Lib.hid (make_any h1 room1)
      have HLR := Lib.hid hlr
      have hlen := h1.ok.len
      obtain ⟨p1, p2, p3, p4, _⟩ := Rw.growN_parts r1 (r1.hist.length + 1 - r1.pth.length)
      have hP : (r1.growN (r1.hist.length + 1 - r1.pth.length)).pth.length = r1.hist.length + 1 := by omega
      have hH16 := h1.ok.short.2
      have HS1 := Lib.hid hs1
      have HLR2 := Lib.hid (show r.learn s k = (((r1.growN (r1.hist.length + 1 - r1.pth.length)).addN s a1 ((r1.growN (r1.hist.length + 1 - r1.pth.length)).pth.length - a1)).write s).refind from hlr)
      have hap : a1 ≤ r1.hist.length + 1 := by omega
      generalize r1.hist.length = HL at *
      clear hlr HLR p1 p2 p3 p4 hs1 h1 room1 hu1 ha1 hlen
      generalize r1.growN (HL + 1 - r1.pth.length) = rg at *
      rw [hP] at room2 HLR2
      have HR2 := Lib.hid room2
      have HP := Lib.hid hP
      clear room2 hP
      go_wp2_with fail
      refine HMK.out.mono ?_
      rintro x w9 ⟨rfl, O2, m2, hs2, h2⟩
      have HC0 := Lib.hid (show CxTo w O b d rg w9 from ⟨O2, m2, HS1.out.trans hs2, h2⟩)
      have HOK := Lib.hid h2.ok
      clear hs2 h2 HMK HS1
      go_wp2_with fail
      go_loopw [6] (fun i wr => ∃ j : Nat, j ≤ HL + 1 - a1 ∧ i = .int .i64 ((a1 + j : Nat) : Int) ∧ CxTo w O b d (rg.addN s a1 j) wr) (fun i _ => HL + 1 - (intOf i).toNat)
      case atStart => exact ⟨0, Nat.zero_le _, rfl, HC0.out⟩
      case round =>
        obtain ⟨j, hj, rfl, O3, m3, hs3, h3⟩ := hrel
        have hp3 : (rg.addN s a1 j).pth.length = HL + 1 := by rw [(Rw.addN_parts rg s a1 j).1, HP.out]
        have HLG := Lib.hid (longest_rw h3)
        rw [hp3] at HLG
        have w1 : (((HL + 1 : Nat) : Int) - 1) = (HL : Int) := by omega
        rw [w1] at HLG
        have HS3 := Lib.hid hs3
        have H3 := Lib.hid h3
        by_cases hlt : j < HL + 1 - a1
        · as_aux_lemma =>
          obtain ⟨k1, k2⟩ := Rw.addN_room HOK.out (s := s) (a := a1) (n := j) (N := HL + 1 - a1) hs hlt (by rw [HP.out]; omega) HR2.out
          obtain ⟨i, l, e1, e2⟩ := k1.at (k := a1 + j) (by rw [hp3]; omega)
          rw [Rw.hasK_at e1 e2] at k2
          have HAD := Lib.hid (addk_any h3 e1 e2 hs k2)
          have HNX := Lib.hid (show rg.addN s a1 (j + 1) = (rg.addN s a1 j).addAt s (a1 + j) from rfl)
          have g1 : ((a1 + j : Nat) : Int) ≤ (HL : Int) := by omega
          have hjn : j + 1 ≤ HL + 1 - a1 := by omega
          have hms : HL + 1 - (a1 + (j + 1)) < HL + 1 - (a1 + j) := by omega
          have hk16 : a1 + j + 1 ≤ 17 := by omega
          obtain ⟨kk, hkk⟩ : ∃ kk, kk = a1 + j := ⟨_, rfl⟩
          have HKK := Lib.hid hkk
          rw [← hkk] at HAD g1 hms hk16 ⊢
          clear k1 k2 e1 e2 hs3 h3 hp3 w1 hkk hlt
          go_wp2_with fail
          refine HLG.out.mono ?_
          rintro x w4 ⟨rfl, rfl⟩
          go_wp2_with fail
          refine HAD.out.mono ?_
          rintro x w5 ⟨rfl, O5, m5, hs5, h5⟩
          have HFIN := Lib.hid (show CxTo w O b d (rg.addN s a1 (j + 1)) w5 from by rw [HNX.out, ← HKK.out]; exact ⟨O5, m5, HS3.out.trans hs5, h5⟩)
          clear hs5 h5
          go_wp2_with fail
          go_roundw
          case rel => exact ⟨j + 1, hjn, by rw [HKK.out]; go_num, HFIN.out⟩
          case measure => simp [intOf]; omega
        · obtain rfl : j = HL + 1 - a1 := by omega
          have g1 : ¬ ((a1 + (HL + 1 - a1) : Nat) : Int) ≤ (HL : Int) := by omega
          have HWR := Lib.hid (write_any h3 hs)
          have HPW := Lib.hid (show ((rg.addN s a1 (HL + 1 - a1)).write s).pth.length = HL + 1 from hp3)
          clear hs3 h3 hp3 w1 hlt hj
          generalize rg.addN s a1 (HL + 1 - a1) = ra at *
          generalize a1 + (HL + 1 - a1) = kk at *
          go_wp2_with fail
          refine HLG.out.mono ?_
          rintro x w4 ⟨rfl, rfl⟩
          go_wp2_with fail
          refine HWR.out.mono ?_
          rintro x w5 ⟨rfl, O5, m5, hs5, h5⟩
          have HS5 := Lib.hid (HS3.out.trans hs5)
          have HFD := Lib.hid (find_any h5 (by rw [HPW.out]; omega))
          clear hs5 h5
          go_wp2_with fail
          refine HFD.out.mono ?_
          rintro x w6 ⟨rfl, O6, m6, hs6, h6⟩
          have HFIN := Lib.hid (show CxTo w O b d (r.learn s k) w6 from by rw [HLR2.out]; exact ⟨O6, m6, HS5.out.trans hs6, h6⟩)
          clear hs6 h6
          go_wp2_with fail
          first | go_end0 | (simp only [Exit.inBlock, Exit.then]; refine bodyPost_ret (results_none rfl _ _ _) rfl ?_) | refine bodyPost_ret (results_none rfl _ _ _) rfl ?_
          exact ⟨rfl, HFIN.out⟩
end
end Go.Proofs.Yteacmcckhjabmaa.Cx
