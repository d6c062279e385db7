/-
  The walk of the statement PacketReps.
-/
import Derived.Test.YthejbnodalnnpaaPackSpeaks
import Derived.Test.YthejbnodalnnpaaPackEq
import Derived.Deep.DeepCutAuto
import Derived.Deep.RegionHeld3
namespace Go.Proofs.Ythejbnodalnnpaa.Pk
open Go.RowKit
/-- The first place behind k where a distance lies. -/
def Rp.from (r : Rp) (x : Int) (k : Int) : Int × Bool := if k < 0 ∧ r.a = x then (0, true) else if k < 1 ∧ r.b = x then (1, true) else if k < 2 ∧ r.c = x then (2, true) else if k < 3 ∧ r.d = x then (3, true) else (0, false)
theorem from_start (r : Rp) (x : Int) : r.from x 3 = (0, false) := by unfold Rp.from; simp
theorem from_end (r : Rp) (x : Int) : r.from x (-1) = r.find x := by unfold Rp.from Rp.find; simp
theorem from_hit (r : Rp) (x k : Int) (hk : 0 ≤ k ∧ k ≤ 3) (h : r.at k = x) : r.from x (k - 1) = (k, true) := by
  unfold Rp.at at h
  unfold Rp.from
  rcases (show k = 0 ∨ k = 1 ∨ k = 2 ∨ k = 3 by omega) with rfl | rfl | rfl | rfl <;> simp at h <;> simp [h]
theorem from_miss (r : Rp) (x k : Int) (hk : 0 ≤ k ∧ k ≤ 3) (h : r.at k ≠ x) : r.from x (k - 1) = r.from x k := by
  unfold Rp.at at h
  unfold Rp.from
  rcases (show k = 0 ∨ k = 1 ∨ k = 2 ∨ k = 3 by omega) with rfl | rfl | rfl | rfl <;> simp at h <;> simp [h]
abbrev Rep1 : Prop := ∀ (W : World) (X : Nat), IsPts W (some ⟨X, 0, none⟩) pp → Calls Try.prog 38 #[.slice (some ⟨X, 0, none⟩) 2 2] W fun x w' => ∃ Z, x = .returned (.slice (some ⟨Z, 0, none⟩) 2 2) ∧ Below W.heap.size W w' ∧ W.heap.size ≤ Z ∧ (w'.cell? ⟨Z, 4, none⟩ = some (.int .i64 3) ∧ w'.cell? ⟨Z, 5, none⟩ = some (.int .i64 0) ∧ w'.cell? ⟨Z, 6, none⟩ = some (.int .i64 3) ∧ w'.cell? ⟨Z, 7, none⟩ = some (.int .u8 0))
set_option maxRecDepth 100000 in
set_option maxHeartbeats 4000000 in
theorem reps_walk (HREP : Rep1) (r : Rp) (dist i : Int) (w : World) :
    Calls Try.prog 6 #[.agg #[.int .i64 r.a, .int .i64 r.b, .int .i64 r.c, .int .i64 r.d], .int .i64 dist, .int .i64 i] w fun x w' => x = .returned (.bool true) ∧ Below w.heap.size w w' := by
  have HSP := Lib.hid (fun w => speaks6 w HREP)
  have HFD : Hid (∀ W : World, Calls Try.prog 41 #[.agg #[.int .i64 r.a, .int .i64 r.b, .int .i64 r.c, .int .i64 r.d], .int .i64 dist] W fun x w' => x = .returned (.tuple #[.int .i64 (r.find dist).1, .bool (r.find dist).2]) ∧ Below W.heap.size W w') := Lib.hid (find_any r dist)
  clear HREP
  go_enter Try.func6, Try.ntmps6
  go_wp2_with fail
  have HA0 := Lib.hid (heap_alloc_new w (.cells #[.int .i64 r.a, .int .i64 r.b, .int .i64 r.c, .int .i64 r.d] 77))
  have HB0 := Lib.hid ((Below.refl _ w).alloc (Nat.le_refl _) (.cells #[.int .i64 r.a, .int .i64 r.b, .int .i64 r.c, .int .i64 r.d] 77))
  generalize w.alloc (.cells #[.int .i64 r.a, .int .i64 r.b, .int .i64 r.c, .int .i64 r.d] 77) = w1 at *
  generalize w.heap.size = A at HA0 ⊢
  refine (HSP.out w1).mono ?_
  rintro x w2 ⟨rfl, hb2⟩
  have HA2 := Lib.hid ((hb2.block A (lt_of_heap HA0.out)).trans HA0.out)
  have HB2 := Lib.hid (bel_new hb2 HB0.out)
  clear hb2 HA0 HB0 HSP
  obtain ⟨⟨a0, a1, a2, a3⟩, _, hAl⟩ := four HA2.out
  go_wp2_with fail
  have HX3 := Lib.hid (heap_alloc_new w2 (.cells #[.int .i64 r.a, .int .i64 r.b, .int .i64 r.c, .int .i64 r.d] 78))
  have HA3 := Lib.hid ((Below.heap_alloc w2 (.cells #[.int .i64 r.a, .int .i64 r.b, .int .i64 r.c, .int .i64 r.d] 78) A hAl).trans HA2.out)
  have HB3 := Lib.hid (bel_alloc (.cells #[.int .i64 r.a, .int .i64 r.b, .int .i64 r.c, .int .i64 r.d] 78) HB2.out)
  clear HA2 HB2 a0 a1 a2 a3 hAl
  generalize w2.alloc (.cells #[.int .i64 r.a, .int .i64 r.b, .int .i64 r.c, .int .i64 r.d] 78) = w3 at *
  generalize w2.heap.size = X at *
  refine (HFD.out w3).mono ?_
  rintro x w4 ⟨rfl, hb4⟩
  have HX4 := Lib.hid ((hb4.block X (lt_of_heap HX3.out)).trans HX3.out)
  have HA4 := Lib.hid ((hb4.block A (lt_of_heap HA3.out)).trans HA3.out)
  have HB4 := Lib.hid (bel_new hb4 HB3.out)
  clear hb4 HX3 HA3 HB3 HFD
  obtain ⟨⟨a0, a1, a2, a3⟩, _, hAl⟩ := four HA4.out
  obtain ⟨⟨x0, x1, x2, x3⟩, _, hXl⟩ := four HX4.out
  go_wp2_with fail
  go_loopw [10, 11, 12] (fun u v k wr => ∃ j : Int, -1 ≤ j ∧ j ≤ 3 ∧ k = .int .i64 j ∧ u = .int .i64 (r.from dist j).1 ∧ v = .bool (r.from dist j).2 ∧ w4 = wr) (fun _ _ k _ => ((intOf k) + 1).toNat)
  case atStart => exact ⟨3, by omega, by omega, rfl, by rw [from_start], by rw [from_start], rfl⟩
  case round =>
    obtain ⟨j, h1, h2, rfl, rfl, rfl, rfl⟩ := hrel
    by_cases hj : 0 ≤ j
    · as_aux_lemma =>
      have hrj : w4.cell? ⟨A, j.toNat, none⟩ = some (.int .i64 (r.at j)) := by
        unfold Rp.at
        rcases (show j = 0 ∨ j = 1 ∨ j = 2 ∨ j = 3 by omega) with rfl | rfl | rfl | rfl
        · exact a0
        · exact a1
        · exact a2
        · exact a3
      clear a0 a1 a2 a3
      by_cases he : r.at j = dist
      · have HE := Lib.hid (from_hit r dist j ⟨hj, h2⟩ he)
        have e1 : (r.at j == dist) = true := by simpa using he
        clear he
        generalize r.at j = y at *
        obtain ⟨q, rfl⟩ := Int.eq_ofNat_of_zero_le hj
        rw [Int.toNat_natCast] at hrj
        go_wp2
        refine ⟨⟨(q : Int) - 1, by omega, by omega, rfl, by rw [HE.out], by rw [HE.out], by first | rfl | trivial⟩, ?_⟩
        simp only [intOf]
        omega
      · have HE := Lib.hid (from_miss r dist j ⟨hj, h2⟩ he)
        have e1 : (r.at j == dist) = false := by simpa using he
        clear he
        generalize r.at j = y at *
        obtain ⟨q, rfl⟩ := Int.eq_ofNat_of_zero_le hj
        rw [Int.toNat_natCast] at hrj
        go_wp2
        refine ⟨⟨(q : Int) - 1, by omega, by omega, rfl, by rw [HE.out], by rw [HE.out], by first | rfl | trivial⟩, ?_⟩
        simp only [intOf]
        omega
    · as_aux_lemma =>
      obtain rfl : j = -1 := by omega
      rw [from_end]
      generalize r.find dist = f at *
      obtain ⟨f1, f2⟩ := f
      simp only
      have HPU : Hid (∀ W : World, Calls Try.prog 42 #[.agg #[.int .i64 r.a, .int .i64 r.b, .int .i64 r.c, .int .i64 r.d], .int .i64 dist] W fun x w' => x = .returned (.agg #[.int .i64 dist, .int .i64 r.a, .int .i64 r.b, .int .i64 r.c]) ∧ Below W.heap.size W w') := Lib.hid (push_any r dist)
      have HRP : Hid (∀ W : World, Calls Try.prog 43 #[.agg #[.int .i64 r.a, .int .i64 r.b, .int .i64 r.c, .int .i64 r.d], .int .i64 dist] W fun x w' => x = .returned (.agg #[.int .i64 dist, .int .i64 r.a, .int .i64 r.b, .int .i64 r.c]) ∧ Below W.heap.size W w') := Lib.hid (rpush_any r dist)
      have HFR : Hid (∃ s : Rp, (∀ W : World, Calls Try.prog 44 #[.agg #[.int .i64 r.a, .int .i64 r.b, .int .i64 r.c, .int .i64 r.d], .int .i64 i] W fun x w' => x = .returned (.agg #[.int .i64 s.a, .int .i64 s.b, .int .i64 s.c, .int .i64 s.d]) ∧ Below W.heap.size W w') ∧ ∀ W : World, Calls Try.prog 45 #[.agg #[.int .i64 r.a, .int .i64 r.b, .int .i64 r.c, .int .i64 r.d], .int .i64 i] W fun x w' => x = .returned (.agg #[.int .i64 s.a, .int .i64 s.b, .int .i64 s.c, .int .i64 s.d]) ∧ Below W.heap.size W w') := Lib.hid ⟨r.front i, front_any r i, rfront_any r i⟩
      obtain ⟨s, hf1, hf2⟩ := HFR.out
      have HF1 := Lib.hid hf1
      have HF2 := Lib.hid hf2
      clear hf1 hf2 HFR
      have HST : Hid (∀ W : World, Calls Try.prog 46 #[] W fun x w' => x = .returned (.agg #[.int .i64 1, .int .i64 1, .int .i64 1, .int .i64 1]) ∧ Below W.heap.size W w') := Lib.hid first_any
      have HS : Hid (∀ W' : World, Below w4.heap.size w4 W' → Below w4.heap.size w4 W' ∧ (W'.cell? ⟨A, 0, none⟩ = some (.int .i64 r.a) ∧ W'.cell? ⟨A, 1, none⟩ = some (.int .i64 r.b) ∧ W'.cell? ⟨A, 2, none⟩ = some (.int .i64 r.c) ∧ W'.cell? ⟨A, 3, none⟩ = some (.int .i64 r.d)) ∧ (W'.cell? ⟨X, 0, none⟩ = some (.int .i64 r.a) ∧ W'.cell? ⟨X, 1, none⟩ = some (.int .i64 r.b) ∧ W'.cell? ⟨X, 2, none⟩ = some (.int .i64 r.c) ∧ W'.cell? ⟨X, 3, none⟩ = some (.int .i64 r.d))) :=
        Lib.hid fun W' hb => ⟨hb, (four ((hb.block A hAl).trans HA4.out)).1, (four ((hb.block X hXl).trans HX4.out)).1⟩
      have hq1 : ∀ w : World, (Op.equalIn 10000 77 (.agg #[.int .i64 dist, .int .i64 r.a, .int .i64 r.b, .int .i64 r.c]) (.agg #[.int .i64 dist, .int .i64 r.a, .int .i64 r.b, .int .i64 r.c])).run Try.prog w = .ok true w := eq_deep 9998 _ _ _ _
      have hq2 : ∀ w : World, (Op.equalIn 10000 77 (.agg #[.int .i64 s.a, .int .i64 s.b, .int .i64 s.c, .int .i64 s.d]) (.agg #[.int .i64 s.a, .int .i64 s.b, .int .i64 s.c, .int .i64 s.d])).run Try.prog w = .ok true w := eq_deep 9998 _ _ _ _
      have hq3 : ∀ w : World, (Op.equalIn 10000 77 (.agg #[.int .i64 1, .int .i64 1, .int .i64 1, .int .i64 1]) (.agg #[.int .i64 1, .int .i64 1, .int .i64 1, .int .i64 1])).run Try.prog w = .ok true w := eq_deep 9998 _ _ _ _
      have hq4 : ∀ w : World, (Op.equalIn 10000 77 (.agg #[.int .i64 r.a, .int .i64 r.b, .int .i64 r.c, .int .i64 r.d]) (.agg #[.int .i64 r.a, .int .i64 r.b, .int .i64 r.c, .int .i64 r.d])).run Try.prog w = .ok true w := eq_deep 9998 _ _ _ _
      go_wp2_with fail
      go_region_held3 (fun W' => Below w4.heap.size w4 W' ∧ (W'.cell? ⟨A, 0, none⟩ = some (.int .i64 r.a) ∧ W'.cell? ⟨A, 1, none⟩ = some (.int .i64 r.b) ∧ W'.cell? ⟨A, 2, none⟩ = some (.int .i64 r.c) ∧ W'.cell? ⟨A, 3, none⟩ = some (.int .i64 r.d)) ∧ (W'.cell? ⟨X, 0, none⟩ = some (.int .i64 r.a) ∧ W'.cell? ⟨X, 1, none⟩ = some (.int .i64 r.b) ∧ W'.cell? ⟨X, 2, none⟩ = some (.int .i64 r.c) ∧ W'.cell? ⟨X, 3, none⟩ = some (.int .i64 r.d))) ((refine HS.out _ ?_; repeat (first | assumption | exact Below.refl _ _ | refine bel_drew ?_ | refine bel_alloc _ ?_ | (refine bel_new (by assumption) ?_)))) (first | (go_at_call 42; (with_reducible refine (HPU.out _).mono ?_); rintro x wa ⟨rfl, hba⟩) | (go_at_call 43; (with_reducible refine (HRP.out _).mono ?_); rintro x wb ⟨rfl, hbb⟩) | (go_at_call 44; (with_reducible refine (HF1.out _).mono ?_); rintro x wc ⟨rfl, hbc⟩) | (go_at_call 45; (with_reducible refine (HF2.out _).mono ?_); rintro x wd ⟨rfl, hbd⟩) | (go_at_call 46; (with_reducible refine (HST.out _).mono ?_); rintro x we ⟨rfl, hbe⟩))
      all_goals
        go_wp2_with fail
        go_ret
        refine ⟨rfl, bel_new (W := w4) ?_ HB4.out⟩
        repeat (first | assumption | exact Below.refl _ _ | refine bel_drew ?_ | (refine bel_new (by assumption) ?_))
end Go.Proofs.Ythejbnodalnnpaa.Pk
