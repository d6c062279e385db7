/-
  The walk of the statement OptimalLeast: for every text, window and table it returns true, and writes nothing that was there.
-/
import Derived.Test.YteacmcckhjabmaaOptSpeaks
import Derived.Test.YteacmcckhjabmaaOptRef
import Derived.Test.YteacmcckhjabmaaPriceOf
set_option linter.unusedVariables false
set_option linter.unusedSimpArgs false
namespace Go.Proofs.Yteacmcckhjabmaa.Om
open Go.RowKit
open Pc (Tb ofV)
open Pk (Pt IsPts)
theorem text_back (s : ByteArray) : (⟨s.data.toList.toArray⟩ : ByteArray) = s := by
  apply ByteArray.ext
  simp
set_option maxRecDepth 100000 in
set_option maxHeartbeats 4000000 in
theorem least_walk (s0 : ByteArray) (window : Int) (t : Tb) (w : World) (hs0 : s0.size ≤ maxLen) (hw0 : -9223372036854775808 ≤ window) (hw1 : window ≤ 9223372036854775807) :
    Calls Try.prog 3 #[.string s0, .int .i64 window, .agg #[.int .i64 t.l, .int .i64 t.m, .int .i64 t.n, .int .i64 t.f, .int .i64 t.b]] w fun x w' => x = .returned (.bool true) ∧ Below w.heap.size w w' := by
  unfold maxLen at hs0
  have HSP := Lib.hid speaks16
  have hb1 : Below w.heap.size w (w.alloc (.cells #[.int .i64 t.l, .int .i64 t.m, .int .i64 t.n, .int .i64 t.f, .int .i64 t.b] 23)) := (Below.refl _ _).alloc (Nat.le_refl _) _
  have HX1 := Lib.hid (heap_alloc_new w (.cells #[.int .i64 t.l, .int .i64 t.m, .int .i64 t.n, .int .i64 t.f, .int .i64 t.b] 23))
  have HB1 := Lib.hid hb1
  clear hb1
  go_enter Try.func3, Try.ntmps3
  go_upto_region 1 with (fail)
  generalize w.alloc (.cells #[.int .i64 t.l, .int .i64 t.m, .int .i64 t.n, .int .i64 t.f, .int .i64 t.b] 23) = w1 at *
  obtain ⟨X, hX⟩ : ∃ X, X = w.heap.size := ⟨_, rfl⟩
  rw [← hX] at HX1 ⊢
  have HXE := Lib.hid hX
  clear hX
  go_wp2_with fail
  refine (HSP.out w1).mono ?_
  rintro x w2 ⟨rfl, hb2⟩
  have HB2 := Lib.hid (HB1.out.trans (hb2.mono HB1.out.size))
  have HX2 := Lib.hid ((hb2.block X (lt_of_heap HX1.out)).trans HX1.out)
  clear hb2 HSP HX1 HB1
  go_upto_region 4 with (fail)
  have hmm : (if (80 : Int) < (s0.size : Int) then (80 : Int) else (s0.size : Int)) = min (s0.size : Int) 80 := by split <;> omega
  try rw [hmm]
  clear hmm
  have hs : (s0.extract 0 (min (s0.size : Int) 80).toNat).size ≤ 80 := by simp; omega
  generalize min (s0.size : Int) 80 = mn at *
  generalize s0.extract 0 mn.toNat = s at *
  obtain ⟨x0, x1, x2, x3, x4⟩ := five_of HX2.out
  go_upto_region 5 with (fail)
  have hb3 : Below w2.heap.size w2 (w2.alloc (.cells #[.int .i64 t.l, .int .i64 t.m, .int .i64 t.n, .int .i64 t.f, .int .i64 t.b] 25)) := (Below.refl _ _).alloc (Nat.le_refl _) _
  have HY3 := Lib.hid (heap_alloc_new w2 (.cells #[.int .i64 t.l, .int .i64 t.m, .int .i64 t.n, .int .i64 t.f, .int .i64 t.b] 25))
  have HB3 := Lib.hid (HB2.out.trans (hb3.mono HB2.out.size))
  have HX3 := Lib.hid ((hb3.block X (lt_of_heap HX2.out)).trans HX2.out)
  clear hb3 HX2 HB2 x0 x1 x2 x3 x4
  generalize w2.alloc (.cells #[.int .i64 t.l, .int .i64 t.m, .int .i64 t.n, .int .i64 t.f, .int .i64 t.b] 25) = w3 at *
  generalize w2.heap.size = Y at *
  obtain ⟨y0, y1, y2, y3, y4⟩ := five_of HY3.out
  have HGD := Lib.hid (Pc.good_any t w3)
  cases hg : t.good with
  | false =>
    rw [hg] at HGD
    clear hg
    go_wp2_with fail
    refine HGD.out.mono ?_
    rintro x w4 ⟨rfl, hb4⟩
    have HB4 := Lib.hid (HB3.out.trans (hb4.mono HB3.out.size))
    clear hb4 HGD y0 y1 y2 y3 y4
    go_wp2_with fail
    go_ret
    exact ⟨rfl, HB4.out⟩
  | true =>
    rw [hg] at HGD
    obtain ⟨W, hW⟩ : ∃ W, W = min window 1048576 := ⟨_, rfl⟩
    have HW := Lib.hid hW
    have HPL := Lib.hid (fun (W1 : World) => plain_any s (by omega) window hw0 hw1 t hg W1)
    rw [← hW] at HPL
    obtain ⟨⟨r, k1⟩, k2, k3, k4⟩ := back_good (s := s) (W := W) hg (by omega) s.size s.size (Nat.le_refl _) (Nat.le_refl _)
    have hrev : (backK (ways t s W s.size) s s.size s.size).reverse = plainL t s W := rfl
    have k3' : ∀ q ∈ plainL t s W, q.b < 256 ∧ 0 ≤ q.d ∧ q.d ≤ 1048576 ∧ (q.k = 2 → q.d ≤ W) := fun q hq => k3 q (by rw [← hrev] at hq; exact List.mem_reverse.1 hq)
    have k4' : (plainL t s W).length ≤ s.size := by rw [← hrev, List.length_reverse]; exact k4
    rw [hrev] at k1 k2
    rw [List.take_of_length_le (by rw [Array.length_toList]; exact Nat.le_refl _)] at k1
    rw [least_eq hg (by omega)] at k2
    have HLE := Lib.hid (fun (W1 : World) => least_any s (by omega) window W hW t hg W1)
    have ha := k1.end s.size
    rw [if_pos (by rw [Array.length_toList]; exact Nat.le_refl _)] at ha
    have HA := Lib.hid ha
    have HK2 := Lib.hid k2
    have HK3 := Lib.hid k3'
    have HG := Lib.hid hg
    clear hrev k1 k2 k3 k3' k4 ha hg hW
    generalize plainL t s W = l at *
    generalize least t s W s.size 0 = N at *
    have hl1000 : l.length ≤ 1000 := by omega
    go_wp2_with fail
    refine HGD.out.mono ?_
    rintro x w4 ⟨rfl, hb4⟩
    have HB4 := Lib.hid (HB3.out.trans (hb4.mono HB3.out.size))
    have HX4 := Lib.hid ((hb4.block X (lt_of_heap HX3.out)).trans HX3.out)
    have HY4 := Lib.hid ((hb4.block Y (lt_of_heap HY3.out)).trans HY3.out)
    clear hb4 HGD y0 y1 y2 y3 y4 HB3 HX3 HY3
    obtain ⟨y0, y1, y2, y3, y4⟩ := five_of HY4.out
    go_wp2_with fail
    refine (HPL.out w4).mono ?_
    rintro x w5 ⟨A, cap, rfl, hb5, hI5⟩
    have HB5 := Lib.hid (HB4.out.trans (hb5.mono HB4.out.size))
    have HX5 := Lib.hid ((hb5.block X (lt_of_heap HX4.out)).trans HX4.out)
    have HY5 := Lib.hid ((hb5.block Y (lt_of_heap HY4.out)).trans HY4.out)
    have HI5 := Lib.hid hI5
    have hap := Pk.apply_any hI5 hl1000 cap (s.size : Int) (by omega)
    rw [Int.toNat_natCast, HA.out] at hap
    simp only at hap
    rw [text_back] at hap
    have HAP := Lib.hid hap
    clear hb5 hI5 hap HPL y0 y1 y2 y3 y4 HB4 HX4 HY4
    go_wp2_with fail
    refine HAP.out.mono ?_
    rintro x w6 ⟨rfl, hb6⟩
    have HB6 := Lib.hid (HB5.out.trans (hb6.mono HB5.out.size))
    have HX6 := Lib.hid ((hb6.block X (lt_of_heap HX5.out)).trans HX5.out)
    have HY6 := Lib.hid ((hb6.block Y (lt_of_heap HY5.out)).trans HY5.out)
    have HI6 := Lib.hid (HI5.out.below hb6)
    clear hb6 HAP HB5 HX5 HY5 HI5
    go_wp2_with fail
    go_loopw [11] (fun i wr => ∃ k : Nat, k ≤ l.length ∧ i = .int .i64 (k : Int) ∧ wr = w6) (fun i _ => l.length - (intOf i).toNat)
    case atStart => exact ⟨0, Nat.zero_le _, rfl, rfl⟩
    case round =>
      obtain ⟨k, hk, rfl, rfl⟩ := hrel
      by_cases hlt : k < l.length
      · rcases HI6.out with h | ⟨bb, oo, rfl, hI⟩
        · rw [h] at hlt; simp at hlt
        · obtain ⟨p0, p1, p2, p3, _⟩ := hI k hlt
          obtain ⟨_, q0, q1, q2⟩ := HK3.out l[k] (List.getElem_mem hlt)
          have hWw := HW.out
          have q3 : l[k].k = 2 → ¬ window < l[k].d := fun h => by have := q2 h; omega
          clear hI q2 hWw p2 p3
          generalize l[k].k = kk at *
          generalize l[k].d = dd at *
          have e0 : (0 : Int) ≤ (k : Int) := by omega
          have e1 : (k : Int) < (l.length : Int) := by omega
          have e2 : (k : Int).toNat = k := rfl
          by_cases hk2 : kk = 2
          · have q4 := q3 hk2
            subst hk2
            clear q3
            go_wp2_with fail
            go_roundw
            case rel => exact ⟨k + 1, by omega, by go_num, trivial⟩
            case measure => (simp [intOf]; try omega)
          · clear q3
            go_wp2_with fail
            go_roundw
            case rel => exact ⟨k + 1, by omega, by go_num, trivial⟩
            case measure => (simp [intOf]; try omega)
      · obtain rfl : k = l.length := by omega
        obtain ⟨y0, y1, y2, y3, y4⟩ := five_of HY6.out
        have hof := Pc.of_any t HG.out HI6.out hl1000 (fun p hp => by obtain ⟨_, q0, q1, _⟩ := HK3.out p hp; omega) cap
        rw [HK2.out] at hof
        have HOF := Lib.hid hof
        clear hof
        go_wp2_with fail
        refine HOF.out.mono ?_
        rintro x w7 ⟨rfl, hb7⟩
        have HB7 := Lib.hid (HB6.out.trans (hb7.mono HB6.out.size))
        obtain ⟨x0, x1, x2, x3, x4⟩ := five_of ((hb7.block X (lt_of_heap HX6.out)).trans HX6.out)
        clear hb7 HOF HB6 HX6 HY6 HI6 y0 y1 y2 y3 y4
        unfold ofV
        go_wp2_with fail
        refine (HLE.out w7).mono ?_
        rintro x w8 ⟨g, rfl, hb8, hc8⟩
        have HB8 := Lib.hid (HB7.out.trans (hb8.mono HB7.out.size))
        have d0 : (0 : Int) < (s.size : Int) + 1 := by omega
        clear hb8 HB7 HLE x0 x1 x2 x3 x4
        go_wp2_with fail
        go_ret
        exact ⟨rfl, HB8.out⟩
end Go.Proofs.Yteacmcckhjabmaa.Om
