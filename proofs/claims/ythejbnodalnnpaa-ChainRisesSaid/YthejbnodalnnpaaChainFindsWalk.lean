/-
  The walk of the statement ChainFinds: for every text, window and cut it returns true, and writes nothing that was there.
-/
import Derived.Test.YthejbnodalnnpaaChainSpeaks
import Derived.Laws.StructEq
namespace Go.Proofs.Ythejbnodalnnpaa.Ch
open Go.RowKit Go.Maps
open Mt
theorem eq_fd (n d : Int) (w : World) : (Op.equalIn 10000 96 (.agg #[.int .i64 n, .int .i64 d]) (.agg #[.int .i64 n, .int .i64 d])).run Try.prog w = .ok true w := by
  rw [run_equalIn_struct (P := Try.prog) w 9999 96 _ _ (by kernel_rfl) (by kernel_rfl)]
  simp [go_sem, Try.underlying96, Try.underlying3]
theorem Founds.small {t : TypeId} {w0 w : World} {v : Value} {l : List (Nat × Nat)} (h : Founds t w0 w v l) : l.length ≤ 9223372036854775807 := by
  rcases h.row.2 with ⟨_, h2⟩ | ⟨g, cap, cur, _, _, _, h1, h2, _⟩
  · omega
  · unfold maxLen at h2; omega
theorem Founds.cells {t : TypeId} {w0 w : World} {A : Option Addr} {n cap : Nat} {l : List (Nat × Nat)} (h : Founds t w0 w (.slice A n cap) l) (hn : 0 < l.length) : ∃ g, A = some ⟨g, 0, none⟩ ∧ ∀ i (hi : i < l.length), w.cell? ⟨g, i * 2, none⟩ = some (.int .i64 (l[i].1 : Int)) ∧ w.cell? ⟨g, i * 2 + 1, none⟩ = some (.int .i64 (l[i].2 : Int)) := by
  rcases h.form with ⟨_, rfl⟩ | ⟨g, cap', e, _⟩
  · simp at hn
  · have e' := e
    simp only [Value.slice.injEq] at e'
    obtain ⟨rfl, _, _⟩ := e'
    exact ⟨g, rfl, fun i hi => h.cell i hi⟩
theorem ret_bool {a b : Bool} (h : a = b) : Ending.returned (.bool a) = .returned (.bool b) := by rw [h]
theorem FinOk.below {w0 w : World} {O : Paint} {c a : Nat} {s : ByteArray} {window cut : Int} {p B : Nat} {v : Value} (h : FinOk w0 O c a s window cut p B v w) : Below w0.heap.size w0 w := by
  obtain ⟨_, _, _, hb, _⟩ := h
  exact hb
set_option maxRecDepth 100000 in
set_option maxHeartbeats 4000000 in
theorem finds_walk (t : ByteArray) (window cut : Int) (w : World) (ht : t.size ≤ maxLen) (hw0 : -9223372036854775808 ≤ window) (hw1 : window ≤ 9223372036854775807) (hc1 : cut ≤ 9223372036854775807) :
    Calls Try.prog 8 #[.string t, .int .i64 window, .int .i64 cut] w fun x w' => x = .returned (.bool true) ∧ Below w.heap.size w w' := by
  unfold maxLen at ht
  go_enter Try.func8, Try.ntmps8
  go_wp2_with fail
  refine (speaks7 w).mono ?_
  rintro x w1 ⟨rfl, hb1⟩
  have HB1 := Lib.hid hb1
  clear hb1
  go_upto_region 4 with (fail)
  have hus : (t.extract 0 (if (200 : Int) < (t.size : Int) then (200 : Int) else (t.size : Int)).toNat).size ≤ 200 := by
    split <;> simp <;> omega
  generalize (if (200 : Int) < (t.size : Int) then (200 : Int) else (t.size : Int)) = mn at *
  generalize t.extract 0 mn.toNat = s at *
  have HN := Lib.hid (new_ok HB1.out s window cut (by omega))
  go_wp2_with fail
  refine HN.out.mono ?_
  rintro x w2 ⟨O, c, a, B, v, rfl, hF, _⟩
  have HF := Lib.hid hF
  clear hF HN HB1
  go_wp2_with fail
  go_loopw [8] (fun i wr => ∃ k : Nat, k ≤ s.size ∧ i = .int .i64 k ∧ FinOk w O c a s window cut k B v wr) (fun i _ => s.size - (intOf i).toNat)
  case atStart => exact ⟨0, by omega, rfl, HF.out⟩
  case round =>
    clear HF
    obtain ⟨k, hk, rfl, hF⟩ := hrel
    obtain ⟨wo, rfl⟩ : ∃ wo : World, wo = wr := ⟨_, rfl⟩
    have HNX := Lib.hid (next_ok hF hw0 hw1 hc1)
    clear hF
    by_cases hlt : k < s.size
    · have HMN := Lib.hid (show min (k + 1) s.size = k + 1 by omega)
      have HAT := Lib.hid (fun W => at_any s k window cut (by omega) (by omega) W)
      as_aux_lemma =>
      -- BEGIN round
      go_wp2_with fail
      refine HNX.out.mono ?_
      rintro x w3 ⟨v9, rfl, hfo, hF3⟩
      rw [HMN.out] at hF3
      have HF3 := Lib.hid hF3
      have HFO := Lib.hid hfo
      clear hfo hF3 HNX
      generalize foundL s window cut k = l at *
      go_wp2_with fail
      refine (HAT.out _).mono ?_
      rintro x w4 ⟨v10, rfl, hfr, hb4⟩
      have HF4 := Lib.hid (HF3.out.news hb4)
      have HFO4 := Lib.hid (HFO.out.below hb4)
      have HFR := Lib.hid hfr
      clear hb4 hfr HFO HF3 HAT
      obtain ⟨A9, c9, rfl⟩ := HFO4.out.slice
      obtain ⟨A10, c10, rfl⟩ := HFR.out.slice
      have HP := Lib.hid HF4.out.place
      have hll := HFO4.out.small
      go_wp2_with fail
      refine HP.out.mono ?_
      rintro x w5 ⟨rfl, rfl⟩
      go_wp2_with fail
      go_loopw [11] (fun i wr => ∃ j n : Nat, j ≤ l.length ∧ i = .int .i64 j ∧ wr = w4.drewN n) (fun i _ => l.length - (intOf i).toNat)
      case atStart => exact ⟨0, 0, by omega, rfl, rfl⟩
      case round =>
        obtain ⟨j, n, hj, rfl, rfl⟩ := hrel
        by_cases hjl : j < l.length
        · obtain ⟨g9, rfl, hc9⟩ := HFO4.out.cells (by omega)
          obtain ⟨g10, rfl, hc10⟩ := HFR.out.cells (by omega)
          obtain ⟨a0, a1⟩ := hc9 j hjl
          obtain ⟨d0, d1⟩ := hc10 j hjl
          have hq := eq_fd (l[j].1 : Int) (l[j].2 : Int)
          clear hc9 hc10
          generalize l[j] = y at *
          go_wp2_with fail
          go_quiet (fail)
          clear hq
          go_wp2_with fail
          go_roundw
          case rel => exact ⟨j + 1, _, by omega, by go_num, rfl⟩
          case measure => simp [intOf]; omega
        · obtain ⟨j', hj'⟩ : ∃ j' : Nat, j' = j := ⟨j, rfl⟩
          obtain rfl : j = l.length := by omega
          have HF5 := Lib.hid (HF4.out.news (below_drewN (Below.refl _ _) n))
          go_wp2_with fail
          go_roundw
          case rel => exact ⟨k + 1, by omega, by go_num, HF5.out⟩
          case measure => simp [intOf]; omega
      -- END round
    · obtain rfl : k = s.size := by omega
      have HFN := Lib.hid (foundL_none (window := window) (cut := cut) (show ¬ s.size + 3 ≤ s.size by omega))
      have HMN := Lib.hid (show min (s.size + 1) s.size = s.size by omega)
      as_aux_lemma =>
      -- BEGIN stop
      go_wp2_with fail
      refine HNX.out.mono ?_
      rintro x w3 ⟨v9, rfl, hfo, hF3⟩
      rw [HMN.out] at hF3
      rw [HFN.out] at hfo
      obtain ⟨A9, c9, rfl⟩ := hfo.slice
      have HP := Lib.hid hF3.place
      have HB := Lib.hid hF3.below
      clear hfo hF3 HNX
      go_wp2_with fail
      refine HP.out.mono ?_
      rintro x w5 ⟨rfl, rfl⟩
      go_wp2_with fail
      refine (nil_next _).mono ?_
      rintro x w5 ⟨rfl, rfl⟩
      go_wp2_with fail
      refine (nil_place _).mono ?_
      rintro x w5 ⟨rfl, rfl⟩
      go_wp2_with fail
      go_ret
      exact ⟨rfl, HB.out⟩
      -- END stop
end Go.Proofs.Ythejbnodalnnpaa.Ch
