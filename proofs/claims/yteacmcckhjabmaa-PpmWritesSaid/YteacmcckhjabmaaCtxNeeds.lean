/-
  Package context: the contracts of Table (of what contexts are) and needs.
-/
import Derived.Test.YteacmcckhjabmaaCtxWrite
set_option linter.unusedVariables false
set_option linter.unusedSimpArgs false
namespace Go.Proofs.Yteacmcckhjabmaa.Cx
open Go.RowKit
open Rc Ar Fq
section
variable {cs : List Nat} {w w' : World} {O O' : Paint} {b d : Nat} {m : CM} {r : Rw}
theorem Rw.Ok.short (h : r.Ok) : r.pth.length ≤ 17 ∧ r.hist.length ≤ 16 := by
  have := h.len; have := h.hist.1; have := h.order; omega
theorem below_drewN {B : Nat} (w : World) (n : Nat) : Below B w (w.drewN n) := ⟨rfl, rfl, rfl, Nat.le_refl _, fun _ _ => rfl⟩
theorem longest_rw (h : RwAt w O b d m r) : Calls Try.prog 66 #[.pointer (some ⟨d, 0, none⟩)] w fun x w' => x = .returned (.int .i64 ((r.pth.length : Int) - 1)) ∧ w = w' := by
  obtain ⟨A4, p4, q4, _, _⟩ := sl_form h.pth
  rw [iv_len] at q4
  have hb := h.obj
  rw [q4] at hb
  exact longest_any hb (by have := h.ok.short.1; omega)
theorem table_rw (h : RwAt w O b d m r) {k i : Nat} {l : Tl} (hk : r.pth[k]? = some i) (hl : r.K i = some l) : Calls Try.prog 74 #[.pointer (some ⟨d, 0, none⟩), .int .i64 (k : Int)] w fun x w' => x = .returned (.pointer (some ⟨m.tb i, 0, none⟩)) ∧ ∃ n, w' = w.drewN n := by
  have hkl := (List.getElem?_eq_some_iff.1 hk).1
  obtain ⟨g, cap, hv⟩ := h.vq_form (by omega)
  have hb := h.obj
  have hp := h.pth
  rw [hv] at hb hp
  have hc := h.cont i (by rw [hl]; rfl)
  have ht := h.ok.tab i l hl
  exact table_in hb (by have := h.ok.short.1; omega) hp h.ar hk (by
    unfold Aren.takenB
    rw [show ((i : Int)).toNat = i from rfl, hc, h.used]
    simp
    omega) (by rw [hc])
set_option maxRecDepth 100000 in
set_option maxHeartbeats 1000000 in
theorem needs_any (h : RwAt w O b d m r) {s a : Nat} (hs : s < 256) (ha : a ≤ r.pth.length) :
    Calls Try.prog 67 #[.pointer (some ⟨d, 0, none⟩), .int .u8 (s : Int), .int .i64 (a : Int)] w fun x w' => x = .returned (.int .i64 (r.needs s a : Int)) ∧ Below w.heap.size w w' := by
  obtain ⟨e0, e1, e2, e3, e4, e5⟩ := six_at h.obj.1
  obtain ⟨A3, p3, q3, _, _⟩ := sl_form h.hist
  rw [bv_len] at q3
  rw [q3] at e3
  have H := Lib.hid h
  obtain ⟨hl1, hl2⟩ := h.ok.short
  have hl3 := h.ok.len
  have HL := Lib.hid (fun W (hb : Below w.heap.size w W) => longest_rw (h.idle (Step.of_below_same hb O)))
  have hLn := Lib.hid (fun n => still (longest_rw (h.idle ((Step.refl [] w O).drewN n))))
  have w1 : IntKind.i64.wrap ((r.hist.length : Int) - ((r.pth.length : Int) - 1)) = (r.hist.length : Int) - ((r.pth.length : Int) - 1) := by rw [IntKind.wrap_i64]; omega
  have w2 : IntKind.i64.wrap (2 * ((r.hist.length : Int) - ((r.pth.length : Int) - 1))) = 2 * ((r.hist.length : Int) - ((r.pth.length : Int) - 1)) := by rw [IntKind.wrap_i64]; omega
  have w3 : wrap64 ((r.hist.length : Int) - ((r.pth.length : Int) - 1)) = (r.hist.length : Int) - ((r.pth.length : Int) - 1) := by unfold wrap64; omega
  have w4 : wrap64 (2 * ((r.hist.length : Int) - ((r.pth.length : Int) - 1))) = 2 * ((r.hist.length : Int) - ((r.pth.length : Int) - 1)) := by unfold wrap64; omega
  clear h e0 e1 e2 e4 e5
  go_enter Try.func67, Try.ntmps67
  go_wp2_with fail
  go_quiet ((go_at_call 66; exact Calls.quiet_of_same (hLn.out _)))
  go_wp2_with fail
  have HLK : Hid (∀ j, r.lacks s a (j + 1) = r.lacks s a j + if r.hasK s (a + j) then 0 else 1) := Lib.hid (fun j => rfl)
  have hlk : ∀ j, r.lacks s a j ≤ j := fun j => Rw.lacks_le r s a j
  have HLE := Lib.hid hlk
  have HRET := Lib.hid (show r.needs s a = 2 * (r.hist.length + 1 - r.pth.length) + r.lacks s a (r.pth.length - a) from rfl)
  have HLZ := Lib.hid (show r.lacks s a 0 = 0 from rfl)
  clear hlk
  obtain ⟨N0, hN0⟩ : ∃ N0, N0 = 2 * (r.hist.length + 1 - r.pth.length) := ⟨_, rfl⟩
  rw [← hN0] at HRET
  have e7 : 2 * ((r.hist.length : Int) - ((r.pth.length : Int) - 1)) = (N0 : Int) := by omega
  rw [e7]
  have hN1 : N0 ≤ 40 := by omega
  clear e7 hN0 w1 w2 w3 w4 q3 e3
  go_loopw [7, 8] (fun v i wr => ∃ j : Nat, j ≤ r.pth.length - a ∧ i = .int .i64 ((a + j : Nat) : Int) ∧ v = .int .i64 ((N0 + r.lacks s a j : Nat) : Int) ∧ Below w.heap.size w wr) (fun _ i _ => r.pth.length - (intOf i).toNat)
  case atStart => exact ⟨0, Nat.zero_le _, rfl, by rw [HLZ.out]; rfl, below_drewN _ _⟩
  case round =>
    obtain ⟨j, hj, rfl, rfl, hb⟩ := hrel
    have HB := Lib.hid hb
    have HL2 := Lib.hid (HL.out wr hb)
    have hle := HLE.out j
    by_cases hlt : j < r.pth.length - a
    · obtain ⟨i, l, h1, h2⟩ := H.out.ok.at (k := a + j) (by omega)
      have HK := HLK.out j
      rw [Rw.hasK_at h1 h2] at HK
      have HT := Lib.hid (table_rw (H.out.idle (Step.of_below_same hb O)) h1 h2)
      have HH := Lib.hid (fun n => has_any ((H.out.tabs.tab i l h2).step ((Step.of_below_same hb O).drewN n) (by simp)) (fun x hx => by have := (H.out.ok.tab i l h2).2.2.1 x hx; omega) s hs)
      have g1 : ((a + j : Nat) : Int) ≤ (r.pth.length : Int) - 1 := by omega
      generalize r.lacks s a j = L0 at *
      clear HLK HLE h1 h2 hb HL
      have hk : a + j + 1 ≤ 17 := by omega
      have hjn : j + 1 ≤ r.pth.length - a := by omega
      have hms : r.pth.length - (a + (j + 1)) < r.pth.length - (a + j) := by omega
      obtain ⟨k, hkk⟩ : ∃ k, k = a + j := ⟨_, rfl⟩
      have HKK := Lib.hid hkk
      rw [← hkk] at HT g1 hk hms ⊢
      clear hkk hlt
      cases hbb : hasB l s with
      | true =>
        rw [hbb] at HK HH
        have HK2 := Lib.hid HK
        clear HK hbb
        go_wp2_with fail
        refine HL2.out.mono ?_
        rintro x w2 ⟨rfl, rfl⟩
        go_wp2_with fail
        refine HT.out.mono ?_
        rintro x w2 ⟨rfl, n, rfl⟩
        go_wp2_with fail
        refine (HH.out n).mono ?_
        rintro x w2 ⟨rfl, hb2⟩
        have HB2 := Lib.hid (HB.out.trans ((below_drewN _ n).trans hb2 |>.mono HB.out.size))
        clear hb2
        go_wp2_with fail
        go_roundw
        case rel => exact ⟨j + 1, hjn, by rw [HKK.out]; go_num, by rw [HK2.out]; rfl, HB2.out⟩
        case measure => simp [intOf]; omega
      | false =>
        rw [hbb] at HK HH
        have HK2 := Lib.hid HK
        clear HK hbb
        go_wp2_with fail
        refine HL2.out.mono ?_
        rintro x w2 ⟨rfl, rfl⟩
        go_wp2_with fail
        refine HT.out.mono ?_
        rintro x w2 ⟨rfl, n, rfl⟩
        go_wp2_with fail
        refine (HH.out n).mono ?_
        rintro x w2 ⟨rfl, hb2⟩
        have HB2 := Lib.hid (HB.out.trans ((below_drewN _ n).trans hb2 |>.mono HB.out.size))
        clear hb2
        go_wp2_with fail
        go_roundw
        case rel => exact ⟨j + 1, hjn, by rw [HKK.out]; go_num, by rw [HK2.out]; go_num, HB2.out⟩
        case measure => simp [intOf]; omega
    · obtain rfl : j = r.pth.length - a := by omega
      have g1 : ¬ ((a + (r.pth.length - a) : Nat) : Int) ≤ (r.pth.length : Int) - 1 := by omega
      generalize a + (r.pth.length - a) = k at *
      clear HLK HLE hb HL
      go_wp2_with fail
      refine HL2.out.mono ?_
      rintro x w2 ⟨rfl, rfl⟩
      go_wp2_with fail
      go_ret
      exact ⟨Fq.ret_num (by rw [HRET.out]; omega), HB.out⟩
end
end Go.Proofs.Yteacmcckhjabmaa.Cx
