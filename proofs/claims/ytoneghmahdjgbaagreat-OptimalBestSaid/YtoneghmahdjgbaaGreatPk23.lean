/-
  Package optimal: the contract of cheapest.
  A list of packets that is kept, and belongs to a colour.
-/
import Derived.Test.YtoneghmahdjgbaaGreatPk01
import Derived.Test.YtoneghmahdjgbaaGreatPk15
import Derived.Test.YtoneghmahdjgbaaGreatPk22
import Derived.Deep.WholeRow
section
set_option linter.unusedVariables false
set_option linter.unusedSimpArgs false
namespace Go.Proofs.YtoneghmahdjgbaaGreat.Om
open Go.RowKit
open Pc (Tb)
open Bs (BinAt bstL lim cf next_any new_any NextTo)
open Mt (Forest forest_none)
open Ch (bt Founds)
theorem fnd_of {w w' : World} {O : Paint} {v : Value} {l : List (Nat × Nat)} (h : Founds 93 w w' v l) : ∃ A cap, v = .slice A l.length cap ∧ Fnd w' (Step.paint O w 4) A l := by
  rcases h.form with ⟨rfl, rfl⟩ | ⟨g, cap, rfl, h1, h2⟩
  · exact ⟨none, 0, rfl, ⟨fun i hi => by simp at hi⟩⟩
  · refine ⟨_, cap, rfl, ⟨fun i hi => ⟨g, rfl, h2, Step.paint_new h1, ?_⟩⟩⟩
    exact h.cell i hi
theorem all_len (b : Nat → Nat) (p most : Nat) (W : Int) : ∀ (x best : Nat), (Mt.allL b p most W x best).length ≤ x
  | 0, _ => Nat.le_refl _
  | x + 1, best => by
    rw [Mt.allL]
    split
    · split
      · have := all_len b p most W x (Mt.mat b p x 0 most)
        simp only [List.length_cons]; omega
      · have := all_len b p most W x best
        omega
    · exact Nat.zero_le _
theorem pr_pos {t : Tb} (ht : t.good = true) {s : ByteArray} {W : Int} {p : Nat} {x : Nat × Nat} (hx : Ok s W p x) (hp : p ≤ 1048576) : 0 ≤ pr t x := by
  unfold pr
  split
  · obtain ⟨⟨h1, _⟩, _⟩ := t.good_range ht
    omega
  · rcases hx with rfl | ⟨a1, a2, a3, a4, a5⟩
    · rename_i h; exact absurd rfl h
    · have := t.cost_range ht (x.1 : Int) (d := (x.2 : Int)) (by omega)
      omega
theorem ways_pos {t : Tb} (ht : t.good = true) {s : ByteArray} {W : Int} : ∀ k, k ≤ 1048576 → ∀ e, 0 ≤ (ways t s W k e).1
  | 0, _, e => by
    obtain ⟨⟨h1, _⟩, _⟩ := t.good_range ht
    exact Int.mul_nonneg (by omega) (by omega)
  | k + 1, hk, e => by
    rcases (place_off (s := s) (W := W) ht (show k ≤ 1048576 by omega) (ways t s W k)).1.new e with h | ⟨x, h1, h2, h3⟩
    · show 0 ≤ (place t s W k (ways t s W k) e).1
      rw [h]; exact ways_pos ht k (by omega) e
    · show 0 ≤ (place t s W k (ways t s W k) e).1
      rw [h3]
      have a := ways_pos (s := s) (W := W) ht k (by omega) k
      have b := pr_pos ht h1 (by omega)
      show 0 ≤ (ways t s W k k).1 + pr t x
      omega
theorem ways_top {t : Tb} (ht : t.good = true) {s : ByteArray} {W : Int} {k e : Nat} (hk : k ≤ 1048576) (he : e ≤ 10000) : (ways t s W k e).1 ≤ 100000000 :=
  Int.le_trans (ways_less ht 0 k (Nat.zero_le _) hk e) (mul_small ht he).2
/-- What cheapest has, round by round. -/
structure Base (w : World) (O : Paint) (TB WV LV g a : Nat) (t : Tb) (s : ByteArray) (W : Int) (p : Nat) : Prop where
  tb : Blk w O 3 TB (.cells #[.int .i64 t.l, .int .i64 t.m, .int .i64 t.n, .int .i64 t.f, .int .i64 t.b] 25 (0, 0))
  wv : Blk w O 3 WV (.cells #[.slice (some ⟨g, 0, none⟩) (s.size + 1) (s.size + 1)] 43 (0, 0))
  ln : Blk w O 3 LV (.cells (lnA t 274) 78 (0, 0))
  ways : WaysAt w O g (s.size + 1) (ways t s W p)
  fin : ∃ B v xs D, BinAt w O 1 a s W p p B v xs D ∧ (p + 2 ≤ s.size → Forest (bt s) (lim s) s.size W (cf xs) p)
section
variable {cs : List Nat} {w w' : World} {O O' : Paint} {TB WV LV g a p : Nat} {t : Tb} {s : ByteArray} {W : Int}
theorem Base.idle (B : Base w O TB WV LV g a t s W p) (hs : Step [] w O w' O') : Base w' O' TB WV LV g a t s W p := by
  obtain ⟨X, v, xs, D, h1, h2⟩ := B.fin
  exact ⟨B.tb.step hs (by simp), B.wv.step hs (by simp), B.ln.step hs (by simp), B.ways.step hs (by simp), X, v, xs, D, h1.step hs (by simp), h2⟩
end
theorem lnA_all (t : Tb) (k : Nat) : (lnA t k).all (·.oneCell') = true := by
  rw [Array.all_eq_true_iff_forall_mem]
  intro v hv
  exact lnA_one t k v (by simpa using hv)
def cols : List Nat := [1, 2]
set_option maxRecDepth 100000 in
set_option maxHeartbeats 4000000 in
theorem cheapest_any (s : ByteArray) (hs : s.size ≤ 1000) (window : Int) (hw0 : -9223372036854775808 ≤ window) (hw1 : window ≤ 9223372036854775807) (W : Int) (hW : W = min window 1048576) (t : Tb) (ht : t.good = true) (w : World) :
    Calls Tryz.prog 15 #[.string s, .int .i64 window, .agg #[.int .i64 t.l, .int .i64 t.m, .int .i64 t.n, .int .i64 t.f, .int .i64 t.b]] w fun x w' => ∃ g O', x = .returned (.slice (some ⟨g, 0, none⟩) (s.size + 1) (s.size + 1)) ∧ Below w.heap.size w w' ∧ Clear w.heap.size O' ∧ WaysAt w' O' g (s.size + 1) (ways t s W s.size) := by
  have hs1 := Step.alloc_paint w (fun _ => 0) 3 (.cells #[.int .i64 t.l, .int .i64 t.m, .int .i64 t.n, .int .i64 t.f, .int .i64 t.b] 25)
  have HT1 := Lib.hid (Blk.new w (fun _ => 0) 3 (.cells #[.int .i64 t.l, .int .i64 t.m, .int .i64 t.n, .int .i64 t.f, .int .i64 t.b] 25))
  have HS1 := Lib.hid (hs1.nil (cs := cols))
  clear hs1
  go_enter Tryz.func15, Tryz.ntmps15
  go_upto_region 1 with (fail)
  generalize w.alloc (.cells #[.int .i64 t.l, .int .i64 t.m, .int .i64 t.n, .int .i64 t.f, .int .i64 t.b] 25) = w1 at *
  generalize hTB : w.heap.size = TB at *
  have HTB := Lib.hid hTB
  clear hTB
  generalize Step.paint (fun _ => 0) w 3 = O1 at *
  obtain ⟨x0, x1, x2, x3, x4⟩ := five_of HT1.out.1
  have HAL := Lib.hid (alone_any t ht s.size hs w1 O1)
  go_wp2_with fail
  refine HAL.out.mono ?_
  rintro x w2 ⟨g, O2, rfl, hs2, hw2⟩
  go_upto_region 2 with (fail)
  have HT2 := Lib.hid (HT1.out.step hs2 (by simp))
  have HS2 := Lib.hid (HS1.out.trans (hs2.mono (fun c hc => by simp at hc; simp [cols, hc])))
  have HW2 := Lib.hid hw2
  clear hs2 hw2 HT1 HS1 HAL x0 x1 x2 x3 x4
  have hs3 := Step.alloc_paint w2 O2 3 (.cells #[.slice (some ⟨g, 0, none⟩) (s.size + 1) (s.size + 1)] 43)
  have HV3 := Lib.hid (Blk.new w2 O2 3 (.cells #[.slice (some ⟨g, 0, none⟩) (s.size + 1) (s.size + 1)] 43))
  have HT3 := Lib.hid (HT2.out.step hs3 (by simp))
  have HS3 := Lib.hid (HS2.out.trans (hs3.nil (cs := cols)))
  have HW3 := Lib.hid (HW2.out.step hs3 (by simp))
  clear hs3 HT2 HS2 HW2
  generalize w2.alloc (.cells #[.slice (some ⟨g, 0, none⟩) (s.size + 1) (s.size + 1)] 43) = w3 at *
  generalize w2.heap.size = WV at *
  generalize Step.paint O2 w2 3 = O3 at *
  obtain ⟨x0, x1, x2, x3, x4⟩ := five_of HT3.out.1
  have HPR := Lib.hid (prices_any t w3)
  go_wp2_with fail
  refine HPR.out.mono ?_
  rintro x w4 ⟨rfl, hb4⟩
  have hs4 := Step.of_below_same hb4 O3
  have HV4 := Lib.hid (HV3.out.step hs4 (by simp))
  have HT4 := Lib.hid (HT3.out.step hs4 (by simp))
  have HS4 := Lib.hid (HS3.out.trans (hs4.nil (cs := cols)))
  have HW4 := Lib.hid (HW3.out.step hs4 (by simp))
  clear hs4 hb4 HPR x0 x1 x2 x3 x4 HV3 HT3 HS3 HW3
  go_upto_region 3 with (refine wpList_store_row rfl 78 (.tmp 8) (.tmp 17) rfl w4.heap.size (lnA t 274) (by rfl) (by rfl) 78 Tryz.zeroCells78 (heap_alloc_new _ _) (by rw [size274, lnA_size]) (by rw [lnA_zero t, lnA_size, lnA_size]) (lnA_all t 274) ?_)
  rw [World.setRow_alloc_new]
  have hs5 := Step.alloc_paint w4 O3 3 (.cells (lnA t 274) 78)
  have HL5 := Lib.hid (Blk.new w4 O3 3 (.cells (lnA t 274) 78))
  have HV5 := Lib.hid (HV4.out.step hs5 (by simp))
  have HT5 := Lib.hid (HT4.out.step hs5 (by simp))
  have HS5 := Lib.hid (HS4.out.trans (hs5.nil (cs := cols)))
  have HW5 := Lib.hid (HW4.out.step hs5 (by simp))
  clear hs5 HV4 HT4 HS4 HW4
  generalize w4.alloc (.cells (lnA t 274) 78) = w5 at *
  generalize w4.heap.size = LV at *
  generalize Step.paint O3 w4 3 = O5 at *
  have hmm : (if (1048576 : Int) < window then (1048576 : Int) else window) = W := by rw [hW]; split <;> omega
  have hW0 : -9223372036854775808 ≤ W ∧ W ≤ 9223372036854775807 := by omega
  have HNW := Lib.hid (new_any s W w5 O5 1 (by omega))
  clear hW
  go_wp2_with fail
  refine HNW.out.mono ?_
  rintro x w6 ⟨a, O6, B6, v6, xs6, D6, rfl, hs6, hf6⟩
  have HB6 : Hid (Base w6 O6 TB WV LV g a t s W 0) := Lib.hid ⟨HT5.out.step hs6 (by simp), HV5.out.step hs6 (by simp), HL5.out.step hs6 (by simp), HW5.out.step hs6 (by simp), B6, v6, xs6, D6, hf6, fun _ => forest_none _ _ _ _ _⟩
  have HS6 := Lib.hid (HS5.out.trans (hs6.nil (cs := cols)))
  clear hs6 hf6 HNW HT5 HV5 HL5 HW5 HS5 hmm
  go_wp2_with fail
  go_loopw [24] (fun i wr => ∃ (p : Nat) (O1 : Paint), p ≤ s.size ∧ i = .int .i64 (p : Int) ∧ Step cols w (fun _ => 0) wr O1 ∧ Base wr O1 TB WV LV g a t s W p) (fun i _ => s.size - (intOf i).toNat)
  case atStart => exact ⟨0, O6, Nat.zero_le _, rfl, HS6.out, HB6.out⟩
  case round =>
    obtain ⟨p, O1, hp, rfl, hs1, hb1⟩ := hrel
    clear HS6 HB6
    by_cases hlt : p < s.size
    · -- BEGIN round
      have e1 : (p : Int) < (s.size : Int) := by omega
      have e0 : (0 : Int) ≤ (p : Int) := by omega
      have e2 : (p : Int).toNat = p := rfl
      have e3 : (p : Int) < (s.size : Int) + 1 := by omega
      have hpos := ways_pos (s := s) (W := W) ht p (by omega) p
      have htop := ways_top (s := s) (W := W) ht (show p ≤ 1048576 by omega) (show p ≤ 10000 by omega)
      have HNX := Lib.hid (show ways t s W (p + 1) = place t s W p (ways t s W p) from rfl)
      have HB1 := Lib.hid hb1
      have HS1 := Lib.hid hs1
      clear hb1 hs1
      rename World => wo
      go_upto_region 7 with (fail)
      have hs7 := Step.alloc_paint wo O1 3 (.cells #[.int .i64 (p : Int)] 3)
      have HAT := Lib.hid (Blk.new wo O1 3 (.cells #[.int .i64 (p : Int)] 3))
      have HB7 := Lib.hid (HB1.out.idle hs7)
      have HS7 := Lib.hid (HS1.out.trans (hs7.nil (cs := cols)))
      clear hs7 HB1 HS1
      generalize wo.alloc (.cells #[.int .i64 (p : Int)] 3) = w7 at *
      generalize wo.heap.size = AT at *
      generalize Step.paint O1 wo 3 = O7 at *
      have x0 := one_of HB7.out.wv.1
      have x1 := one_of HAT.out.1
      obtain ⟨⟨c0, c1, c2⟩, f0, f1, f2⟩ := HB7.out.ways.cells (show p < s.size + 1 by omega)
      obtain ⟨h, hh⟩ : ∃ h, h = (ways t s W p p).1 := ⟨_, rfl⟩
      rw [← hh] at c0 hpos htop
      have HH := Lib.hid hh
      clear hh
      go_upto_region 8 with (fail)
      have hs8 := Step.alloc_paint w7 O7 3 (.cells #[.int .i64 h] 3)
      have HHV := Lib.hid (Blk.new w7 O7 3 (.cells #[.int .i64 h] 3))
      have HAT8 := Lib.hid (HAT.out.step hs8 (by simp))
      have HB8 := Lib.hid (HB7.out.idle hs8)
      have HS8 := Lib.hid (HS7.out.trans (hs8.nil (cs := cols)))
      clear hs8 HB7 HS7 HAT x0 x1 c0 c1 c2 f0 f1 f2
      generalize w7.alloc (.cells #[.int .i64 h] 3) = w8 at *
      generalize w7.heap.size = HV at *
      generalize Step.paint O7 w7 3 = O8 at *
      obtain ⟨B8, v8, xs8, D8, hf8, hfo8⟩ := HB8.out.fin
      have HF8 := Lib.hid hf8
      have HFO8 := Lib.hid hfo8
      have E8 : Hid (Env w8 O8 HV TB WV AT LV g s.size t p h (ways t s W p)) := Lib.hid ⟨HHV.out, HB8.out.tb, HB8.out.wv, HAT8.out, HB8.out.ln, HB8.out.ways⟩
      have hof := (offer_any (E8.out.ways.step (Step.refl [] w8 O8).drew (by simp)) (show p + 1 < s.size + 1 by omega) (h + t.l) (0, 0))
      rw [show (((0, 0) : Nat × Nat).1 : Int) = 0 from rfl] at hof
      have HOF := Lib.hid hof
      clear hof
      have HST := Lib.hid (show ∀ W', (∃ O', Step [2] w8 O8 W' O') → ((∃ O', Step [2] w8 O8 W' O') ∧ W'.cell? ⟨WV, 0, none⟩ = some (.slice (some ⟨g, 0, none⟩) (s.size + 1) (s.size + 1)) ∧ W'.cell? ⟨AT, 0, none⟩ = some (.int .i64 (p : Int)) ∧ W'.cell? ⟨HV, 0, none⟩ = some (.int .i64 h) ∧ W'.cell? ⟨TB, 0, none⟩ = some (.int .i64 t.l)) from fun W' hq => by
        obtain ⟨O', hq'⟩ := hq
        exact ⟨⟨O', hq'⟩, one_of (E8.out.wv.step hq' (by simp)).1, one_of (E8.out.at'.step hq' (by simp)).1, one_of (E8.out.hv.step hq' (by simp)).1, (five_of (E8.out.tb.step hq' (by simp)).1).1⟩)
      obtain ⟨⟨l1, l2⟩, _⟩ := t.good_range ht
      have d0 : (0 : Int) ≤ (p : Int) + 1 := by omega
      have d1 : (p : Int) + 1 < (s.size : Int) + 1 := by omega
      have d2 : ((p : Int) + 1).toNat = p + 1 := by omega
      have d3 : IntKind.i64.wrap ((p : Int) + 1) = (p : Int) + 1 := by rw [IntKind.wrap_i64]; omega
      have d4 : wrap64 ((p : Int) + 1) = (p : Int) + 1 := by unfold wrap64; omega
      have d5 : IntKind.i64.wrap (h + t.l) = h + t.l := by rw [IntKind.wrap_i64]; omega
      have d6 : wrap64 (h + t.l) = h + t.l := by unfold wrap64; omega
      clear hf8 hfo8 l1 l2
      go_region_held3 (fun W' => (∃ O', Step [2] w8 O8 W' O') ∧ W'.cell? ⟨WV, 0, none⟩ = some (.slice (some ⟨g, 0, none⟩) (s.size + 1) (s.size + 1)) ∧ W'.cell? ⟨AT, 0, none⟩ = some (.int .i64 (p : Int)) ∧ W'.cell? ⟨HV, 0, none⟩ = some (.int .i64 h) ∧ W'.cell? ⟨TB, 0, none⟩ = some (.int .i64 t.l)) ((refine HST.out _ ?_; first | assumption | exact ⟨_, (Step.refl _ _ _).drew⟩)) (first | (go_at_call 38; (with_reducible refine HOF.out.mono ?_); rintro z w9 ⟨rfl, hq9⟩; have hq9' : ∃ O', Step [2] w8 O8 w9 O' := by (obtain ⟨O9, k1, k2⟩ := hq9; exact ⟨O9, k1.from_drew⟩)))
      obtain ⟨O9, hs9, hw9⟩ := hq9
      have HF9 := Lib.hid (HF8.out.step hs9.from_drew (by simp))
      have E9 := Lib.hid (E8.out.told hs9.from_drew hw9)
      have HS9 := Lib.hid (HS8.out.trans (hs9.from_drew.mono (fun c hc => by simp at hc; simp [cols, hc])))
      clear hs9 hw9 hq9' HST HOF HF8 E8 HS8 HB8 HHV HAT8 d0 d1 d2 d3 d4 d5 d6
      have HNT := Lib.hid (next_any HF9.out HFO8.out hW0.1 hW0.2 4 (by decide))
      go_wp2_with fail
      refine HNT.out.mono ?_
      rintro z w10 ⟨v10, rfl, hfd, xs10, D10, hs10, hf10, hfo10⟩
      obtain ⟨A, cap, rfl, hfn⟩ := fnd_of (O := O9) hfd
      have E10 := Lib.hid (E9.out.step hs10 (by simp) (by simp))
      have HS10 := Lib.hid (HS9.out.trans (hs10.mono (fun c hc => by simp at hc; simp [cols, hc])))
      have HFN := Lib.hid hfn
      have HF10 := Lib.hid hf10
      have HFO10 := Lib.hid hfo10
      have hlen : (bstL s W p).length ≤ 1000 := Nat.le_trans (all_len _ _ _ _ _ _) (by omega)
      have HUP := Lib.hid (up_all (s := s) (W := W) (show p ≤ 1048576 by omega) hp p 1 (Nat.le_refl _))
      have hpl : min (p + 1) s.size = p + 1 := by omega
      rw [hpl] at HF10 HFO10
      have HSPN := Lib.hid (spans_any E10.out ht hpos (by omega) hs hlen HFN.out HUP.out cap)
      clear hfd hfn hs10 hf10 hfo10 hlen hpl HNT HF9 HFO8 E9 HS9 HUP HFN
      go_wp2_with fail
      refine HSPN.out.mono ?_
      rintro z w11 ⟨rfl, O11, hs11, E11⟩
      have HS11 := Lib.hid (HS10.out.trans (hs11.mono (fun c hc => by simp at hc; simp [cols, hc])))
      have HB11 : Hid (Base w11 O11 TB WV LV g a t s W (p + 1)) := Lib.hid ⟨E11.tb, E11.wv, E11.ln, by rw [HNX.out]; unfold place; rw [← HH.out]; exact E11.ways, B8, v8, xs10, D10, HF10.out.step hs11 (by simp), HFO10.out⟩
      clear hs11 E11 HSPN E10 HF10 HFO10 HS10
      go_wp2_with fail
      go_roundw
      case rel => exact ⟨p + 1, O11, by omega, by go_num, HS11.out, HB11.out⟩
      case measure => simp [intOf]; omega
      -- END round
    · obtain rfl : p = s.size := by omega
      have HBL := Lib.hid (hs1.below (Nat.le_refl _) (fun k _ => by simp [cols]))
      have HCL : Hid (Clear w.heap.size O1) := Lib.hid (fun k hk => hs1.ext k hk)
      have HWS := Lib.hid hb1.ways
      have x0 := one_of hb1.wv.1
      clear hs1 hb1
      go_wp2_with fail
      go_ret
      first | exact ⟨g, O1, rfl, HBL.out, HCL.out, HWS.out⟩ | exact ⟨g, rfl, O1, HBL.out, HCL.out, HWS.out⟩ | exact ⟨g, rfl, HBL.out, O1, HCL.out, HWS.out⟩
end Go.Proofs.YtoneghmahdjgbaaGreat.Om
end
section
set_option linter.unusedVariables false
namespace Go.Proofs.YtoneghmahdjgbaaGreat.Mo
open Go.RowKit
open Rc
open Pk (Rp Pt four)
open Pl (flatP)
/-- A list of packets that is kept. -/
structure HeldP (w : World) (O : Paint) (c : Nat) (v : Value) (l : List Pt) : Prop where
  row : w.ownsRow 0 33 4 v l.length (flatP l)
  paint : ∀ k, v.ownBlock = some k → O k = c
theorem HeldP.nil (w : World) (O : Paint) (c : Nat) : HeldP w O c (.slice none 0 0) [] := ⟨World.ownsRow_nil _ _ _ _, fun k hk => by simp [Value.ownBlock] at hk⟩
section
variable {cs : List Nat} {w w' : World} {O O' : Paint} {c : Nat} {v : Value} {l : List Pt}
theorem HeldP.lt (h : HeldP w O c v l) {k : Nat} (hk : v.ownBlock = some k) : k < w.heap.size := ownsRow_lt h.row k hk
theorem HeldP.step (h : HeldP w O c v l) (hs : Step cs w O w' O') (hc : c ∉ cs) : HeldP w' O' c v l :=
  ⟨ownsRow_frame h.row hs.frame (fun k hk ho => hc (by rw [h.paint k hk] at ho; exact ho)), fun k hk => (hs.ext k (h.lt hk)).trans (h.paint k hk)⟩
theorem HeldP.slice (h : HeldP w O c v l) : ∃ A p, v = .slice A l.length p := by
  rcases h.row.2 with ⟨e1, e2⟩ | ⟨g, p, cur, e1, _⟩
  · exact ⟨none, 0, by rw [e1, e2]⟩
  · exact ⟨_, p, e1⟩
theorem HeldP.more {o : Obj} {g n cap : Nat} {p : Pt} (h : HeldP w O c v l) (hn : l.length = n) (hr : w'.ownsRow 0 33 4 (.slice (some ⟨g, 0, none⟩) (n + 1) cap) (n + 1) (flatP l ++ [.int .i64 p.k, .int .i64 p.d, .int .i64 p.n, .int .u8 (p.b : Int)])) (hg : (w.alloc o).grownBy w' v.ownBlock) (hm : Moved (w.alloc o) v (.slice (some ⟨g, 0, none⟩) (n + 1) cap)) :
    Step [c] w O w' (Step.paint O w c) ∧ HeldP w' (Step.paint O w c) c (.slice (some ⟨g, 0, none⟩) (n + 1) cap) (l ++ [p]) := by
  have s1 : Step [c] w O w' (Step.paint O w c) := ((((Step.refl [c] w O).alloc o).grown hg (fun k hk => by
    left; simp; exact h.paint k hk))).repaint c
  refine ⟨s1, ⟨?_, fun k hk => ?_⟩⟩
  · rw [Pl.flatP_append, List.length_append, hn]
    exact hr
  · rcases hm with e1 | e1
    · rw [e1] at hk
      rw [Step.paint_old (h.lt hk)]; exact h.paint k hk
    · have := e1 k hk
      rw [World.size_alloc] at this
      exact Step.paint_new (by omega)
/-- The packets as they lie there. -/
theorem HeldP.pts (h : HeldP w O c v l) (hb : ∀ p ∈ l, p.b < 256) : ∃ a cap, v = .slice a l.length cap ∧ Pk.IsPts w a l := Pl.PtsT.slice h.row hb
end
/-- An append of one packet, in a region that draws its order. -/
theorem step_append_pt {P : Program} (w : World) {ops : Array Oper} {o : Oper} {a : Act} {K : Act → World → Prop} {Q : Exit → Act → World → Prop} {E : Prop} (hgd : o.guard = none) (s x : Operand) (t : TypeId)
    (ho : o.op = .call { callee := .builtin .append, args := #[s, x], argTypes := #[t, t] })
    (e : TypeId) (i : TypeInfo) (z : Value) (size bytes : Nat) (ht : P.underlying t = some (.slice e)) (hi : P.info? e = some i) (hz : i.zero = some z)
    (hsize : i.size = size) (hby : i.bytes = bytes) (hzs : z.cells.size = size) (hsz : 0 < size)
    (v : Value) (n : Nat) (xs : List Value) (hs : a.eval s = v) (hown : w.ownsRow 0 e size v n xs)
    (ad : Addr) (m c : Nat) (hm : 0 < m) (news : List Value) (hx : a.eval x = .slice (some ad) m c) (hl : news.length = m * size) (hnews : ∀ j u, news[j]? = some u → w.cell? (ad.add j) = some u) (h1 : ∀ u ∈ news, u.oneCell' = true)
    (h63 : n + m ≤ maxLen) (hbytes : (n + m) * bytes ≤ 140737488355328)
    (h : ∀ g cap w', w'.ownsRow 0 e size (.slice (some ⟨g, 0, none⟩) (n + m) cap) (n + m) (xs ++ news) → w.grownBy w' v.ownBlock → Moved w v (.slice (some ⟨g, 0, none⟩) (n + m) cap) → K (a.put o.dst (.slice (some ⟨g, 0, none⟩) (n + m) cap)) w') :
    if Region.wanted o (yielded ops a.tmps) = true then Oper.wp P o a w K Q else E := by
  have hw : Region.wanted o (yielded ops a.tmps) = true := by simp [Region.wanted, hgd]
  rw [if_pos hw]
  refine wp_append_sep w s x t ho e i z size bytes ht hi hz hsize hby hzs hsz v n xs hs hown ad m c news hx hl hnews h1 h63 hbytes ?_
  intro v' w' h2 h3 h4
  obtain ⟨g, cap, rfl⟩ := own_form h2 (by omega)
  exact h g cap w' h2 h3 h4
theorem qal {w W : World} {O : Paint} {cs : List Nat} (o : Obj) (h : ∃ O', Step cs w O W O') : ∃ O', Step cs w O (W.alloc o) O' := by
  obtain ⟨O', h⟩ := h
  exact ⟨O', h.alloc o⟩
theorem qgrow {w W W' : World} {O : Paint} {cs : List Nat} {row : Option Nat} (h : ∃ O', Step cs w O W O') (hg : W.grownBy W' row) (hr : ∀ k, row = some k → O k ∈ cs) : ∃ O', Step cs w O W' O' := by
  obtain ⟨O', h⟩ := h
  exact ⟨O', h.grown hg (fun k hk => .inl (hr k hk))⟩
theorem qbel {w W W' : World} {O : Paint} {cs : List Nat} (h : ∃ O', Step cs w O W O') (hb : Below W.heap.size W W') : ∃ O', Step cs w O W' O' := by
  obtain ⟨O', h⟩ := h
  exact ⟨O', h.trans (Step.of_below_same hb O').nil⟩
end Go.Proofs.YtoneghmahdjgbaaGreat.Mo
end
