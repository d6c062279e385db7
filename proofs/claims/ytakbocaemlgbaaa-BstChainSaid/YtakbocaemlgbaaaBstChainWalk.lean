/-
  The walk of the statement BstChain: for every text and window it returns true, and writes nothing that was there.
-/
import Derived.Test.YtakbocaemlgbaaaBstChainMath
import Derived.Laws.StructEq
namespace Go.Proofs.Ytakbocaemlgbaaa.Bs
open Go.RowKit Go.Maps
open Mt
open Ch (bt bt_at bt_lt Dm ret_num Founds ret_bool foundL FinAt infoF fd_new fd_one flatF)
theorem eq_chain (n d : Int) (w : World) : (Op.equalIn 10000 32 (.agg #[.int .i64 n, .int .i64 d]) (.agg #[.int .i64 n, .int .i64 d])).run Try.prog w = .ok true w := by
  rw [run_equalIn_struct (P := Try.prog) w 9999 32 _ _ (by kernel_rfl) (by kernel_rfl)]
  simp [go_sem, Try.underlying32, Try.underlying3]
/-- A tree (colour 1) and a chain (colour 2) of one text. -/
def Duo (w0 : World) (a1 a2 : Nat) (s : ByteArray) (window : Int) (p1 p2 B1 B2 : Nat) (v1 v2 : Value) (w : World) (O : Paint) : Prop :=
  ∃ xs D xs2 D2, BinAt w O 1 a1 s window p1 p1 B1 v1 xs D ∧ (p1 + 2 ≤ s.size → Forest (bt s) (lim s) s.size window (cf xs) p1) ∧ FinAt w O 2 a2 s window 1048576 p2 p2 B2 v2 xs2 D2 ∧ Below w0.heap.size w0 w ∧ ∀ k, k < w0.heap.size → O k = 0
section
variable {w0 w w' : World} {O : Paint} {a1 a2 : Nat} {s : ByteArray} {window : Int} {p1 p2 B1 B2 : Nat} {v1 v2 : Value}
theorem Duo.news (h : Duo w0 a1 a2 s window p1 p2 B1 B2 v1 v2 w O) (hb : Below w.heap.size w w') : Duo w0 a1 a2 s window p1 p2 B1 B2 v1 v2 w' O := by
  obtain ⟨xs, D, xs2, D2, h1, hf, h2, h3, h4⟩ := h
  exact ⟨xs, D, xs2, D2, h1.below hb, hf, h2.below hb, h3.trans (hb.mono h3.size), h4⟩
theorem Duo.below (h : Duo w0 a1 a2 s window p1 p2 B1 B2 v1 v2 w O) : Below w0.heap.size w0 w := by
  obtain ⟨_, _, _, _, _, _, _, hb, _⟩ := h
  exact hb
def DuoTo1 (w0 w : World) (O : Paint) (a1 a2 : Nat) (s : ByteArray) (window : Int) (p1 p2 B1 B2 : Nat) (v1 v2 : Value) (x : Ending) (w' : World) : Prop :=
  ∃ v', x = .returned v' ∧ Founds 32 w w' v' (bstL s window p1) ∧ Duo w0 a1 a2 s window (min (p1 + 1) s.size) p2 B1 B2 v1 v2 w' (Step.paint O w 3)
theorem Duo.next1 (h : Duo w0 a1 a2 s window p1 p2 B1 B2 v1 v2 w O) (hw0 : -9223372036854775808 ≤ window) (hw1 : window ≤ 9223372036854775807) :
    Calls Try.prog 12 #[.pointer (some ⟨a1, 0, none⟩)] w (DuoTo1 w0 w O a1 a2 s window p1 p2 B1 B2 v1 v2) := by
  obtain ⟨xs, D, xs2, D2, h1, hf, h2, h3, h4⟩ := h
  refine (next_any h1 hf hw0 hw1 3 (by omega)).mono ?_
  rintro x w' ⟨v', rfl, hfo, xs', D', hs, hF, hf'⟩
  exact ⟨v', rfl, hfo, xs', D', xs2, D2, hF, hf', h2.step hs (by simp), h3.trans (hs.below h3.size (fun k hk => by rw [h4 k hk]; simp)), fun k hk => (hs.ext k (Nat.lt_of_lt_of_le hk h3.size)).trans (h4 k hk)⟩
def DuoTo2 (w0 w : World) (O : Paint) (a1 a2 : Nat) (s : ByteArray) (window : Int) (p1 p2 B1 B2 : Nat) (v1 v2 : Value) (x : Ending) (w' : World) : Prop :=
  ∃ v', x = .returned v' ∧ Founds 32 w w' v' (foundL s window 1048576 p2) ∧ Step [2] w O w' O ∧ Duo w0 a1 a2 s window p1 (min (p2 + 1) s.size) B1 B2 v1 v2 w' O
theorem Duo.next2 (h : Duo w0 a1 a2 s window p1 p2 B1 B2 v1 v2 w O) (hw0 : -9223372036854775808 ≤ window) (hw1 : window ≤ 9223372036854775807) :
    Calls Try.prog 16 #[.pointer (some ⟨a2, 0, none⟩)] w (DuoTo2 w0 w O a1 a2 s window p1 p2 B1 B2 v1 v2) := by
  obtain ⟨xs, D, xs2, D2, h1, hf, h2, h3, h4⟩ := h
  refine (Ch.next_any h2 hw0 hw1 (by omega)).mono ?_
  rintro x w' ⟨v', rfl, hfo, xs', D', hs, hF⟩
  exact ⟨v', rfl, hfo, hs, xs, D, xs', D', h1.step hs (by simp), hf, hF, h3.trans (hs.below h3.size (fun k hk => by rw [h4 k hk]; simp)), h4⟩
end
theorem founds_stepped {t : TypeId} {w0 w w' : World} {O : Paint} {v : Value} {l : List (Nat × Nat)} (h : Founds t w0 w v l) (hs : Step [2] w (Step.paint O w0 3) w' (Step.paint O w0 3)) : Founds t w0 w' v l :=
  ⟨ownsRow_frame h.row hs.frame (fun k hk ho => by rw [Step.paint_new (h.new k hk)] at ho; simp at ho), h.new⟩
/-- The second finder is made. -/
def NewTo (w0 : World) (s : ByteArray) (window : Int) (a1 B1 : Nat) (v1 : Value) (x : Ending) (w' : World) : Prop :=
  ∃ O a2 B2 v2, x = .returned (.pointer (some ⟨a2, 0, none⟩)) ∧ Duo w0 a1 a2 s window 0 0 B1 B2 v1 v2 w' O
theorem new_two {w0 w : World} {O : Paint} {s : ByteArray} {window : Int} {a1 B1 : Nat} {v1 : Value} {xs : List Int} {D : Dm} (h : BinAt w O 1 a1 s window 0 0 B1 v1 xs D) (hb : Below w0.heap.size w0 w) (hO : ∀ k, k < w0.heap.size → O k = 0) (hs : s.size ≤ 1000000000) :
    Calls Try.prog 15 #[.string s, .int .i64 window, .int .i64 1048576] w (NewTo w0 s window a1 B1 v1) := by
  refine (Ch.new_any s window 1048576 w O 2 hs).mono ?_
  rintro x w' ⟨a, O', B, v, xs2, D2, rfl, hst, hF⟩
  exact ⟨O', a, B, v, rfl, xs, D, xs2, D2, h.step hst (by simp), fun _ => forest_none _ _ _ _ _, hF, hb.trans (hst.below hb.size (fun k _ => by simp)), fun k hk => (hst.ext k (Nat.lt_of_lt_of_le hk hb.size)).trans (hO k hk)⟩
set_option maxRecDepth 100000 in
set_option maxHeartbeats 4000000 in
theorem bst_chain_walk (t : ByteArray) (n : Nat) (hn : n ≤ 255) (w : World) (ht : t.size ≤ maxLen) :
    Calls Try.prog 5 #[.string t, .int .u8 (n : Int)] w fun x w' => x = .returned (.bool true) ∧ Below w.heap.size w w' := by
  unfold maxLen at ht
  go_enter Try.func5, Try.ntmps5
  go_wp2_with fail
  refine (speaks8 w).mono ?_
  rintro x w1 ⟨rfl, hb1⟩
  have HB1 := Lib.hid hb1
  clear hb1
  go_upto_region 4 with (fail)
  have hus : (t.extract 0 (if (300 : Int) < (t.size : Int) then (300 : Int) else (t.size : Int)).toNat).size ≤ 300 := by
    split <;> simp <;> omega
  generalize (if (300 : Int) < (t.size : Int) then (300 : Int) else (t.size : Int)) = mn at *
  generalize t.extract 0 mn.toNat = s at *
  have HN := Lib.hid (new_any s (n : Int) w1 (fun _ => 0) 1 (by omega))
  have hw0 : -9223372036854775808 ≤ (n : Int) := by omega
  have hw1 : (n : Int) ≤ 9223372036854775807 := by omega
  have HW0 := Lib.hid hw0
  have HW1 := Lib.hid hw1
  clear hw0 hw1
  go_wp2_with fail
  refine HN.out.mono ?_
  rintro x w2 ⟨a1, O2, B1, v1, xs2, D2, rfl, hst, hF⟩
  have HN2 := Lib.hid (new_two hF (HB1.out.trans ((hst.below (Nat.le_refl _) (fun k _ => by simp)).mono HB1.out.size)) (fun k hk => hst.ext k (Nat.lt_of_lt_of_le hk HB1.out.size)) (by omega))
  clear hst hF HN HB1
  go_wp2_with fail
  refine HN2.out.mono ?_
  rintro x w3 ⟨O3, a2, B2, v2, rfl, hD⟩
  have HD := Lib.hid hD
  clear hD HN2
  go_wp2_with fail
  go_loopw [7] (fun i wr => ∃ (k : Nat) (O : Paint), k ≤ s.size ∧ i = .int .i64 k ∧ Duo w a1 a2 s (n : Int) k k B1 B2 v1 v2 wr O) (fun i _ => s.size - (intOf i).toNat)
  case atStart => exact ⟨0, O3, by omega, rfl, HD.out⟩
  case round =>
    clear HD
    obtain ⟨k, O, hk, rfl, hD⟩ := hrel
    obtain ⟨wo, rfl⟩ : ∃ wo : World, wo = wr := ⟨_, rfl⟩
    by_cases hlt : k < s.size
    · have HMN := Lib.hid (show min (k + 1) s.size = k + 1 by omega)
      have HNX := Lib.hid (Duo.next1 hD HW0.out HW1.out)
      have HEQ := Lib.hid (bst_chain s (n : Int) 1048576 k (by omega))
      have HLL := Lib.hid (Nat.le_trans (bstL_length s (n : Int) k) hk)
      clear hD
      as_aux_lemma =>
      -- BEGIN round
      go_wp2_with fail
      refine HNX.out.mono ?_
      rintro x w4 ⟨v8, rfl, hfo, hD4⟩
      rw [HMN.out] at hD4
      have HFO := Lib.hid hfo
      have HNY := Lib.hid (Duo.next2 hD4 HW0.out HW1.out)
      clear hfo hD4 HNX
      go_wp2_with fail
      refine HNY.out.mono ?_
      rintro x w5 ⟨v9, rfl, hfr, hst, hD5⟩
      rw [HMN.out] at hD5
      have HFO5 := Lib.hid (founds_stepped HFO.out hst)
      have HFR := Lib.hid hfr
      have HD5 := Lib.hid hD5
      clear hfr hst hD5 HFO HNY
      have hll := HLL.out
      generalize bstL s (n : Int) k = l at *
      generalize foundL s (n : Int) 1048576 k = m at *
      obtain ⟨A8, c8, rfl⟩ := HFO5.out.slice
      obtain ⟨A9, c9, rfl⟩ := HFR.out.slice
      have hl300 : l.length ≤ 300 := by omega
      have hm300 : m.length ≤ 300 := by
        rw [← HEQ.out]
        have := far3_length l l.length
        rw [List.take_length] at this
        omega
      clear hll HLL
      obtain ⟨i0, hi, hz0, hz1, hz2⟩ := info_parts infoF
      have HI := Lib.hid hi
      have HZ0 := Lib.hid hz0
      have HZ1 := Lib.hid hz1
      have HZ2 := Lib.hid hz2
      clear hi hz0 hz1 hz2
      go_wp2_with fail
      go_loopw [10, 11] (fun v10 v11 wr => ∃ j : Nat, j ≤ l.length ∧ v11 = .int .i64 j ∧ Founds 32 w5 wr v10 (far3 (l.take j)) ∧ Below w5.heap.size w5 wr) (fun _ v11 _ => l.length - (intOf v11).toNat)
      case atStart => exact ⟨0, by omega, rfl, Founds.nil _ _ _, Below.refl _ _⟩
      case round =>
        obtain ⟨j, hj, rfl, hL, hbl⟩ := hrel
        have HL := Lib.hid hL
        have HBL := Lib.hid hbl
        clear hL hbl
        by_cases hjl : j < l.length
        · obtain ⟨g8, rfl, hc8⟩ := (HFO5.out.below HBL.out).cells (by omega)
          obtain ⟨c0, c1⟩ := hc8 j hjl
          have HTK := Lib.hid (far3_take hjl)
          have hfl := far3_length l j
          clear hc8
          generalize l[j] = y at *
          by_cases h3 : 3 ≤ y.1
          · have z3 : decide (3 ≤ y.1) = true := by simpa using h3
            have HT2 := HTK.out
            rw [if_pos h3] at HT2
            have HT3 := Lib.hid HT2
            have hn1 : (far3 (l.take j)).length + 1 ≤ maxLen := by unfold maxLen; omega
            have hn2 : ((far3 (l.take j)).length + 1) * 16 ≤ 140737488355328 := by omega
            have HROW := Lib.hid HL.out.row
            clear HT2 HTK hfl
            generalize far3 (l.take j) = l0 at *
            go_wp2_with (at_builtin; refine wpList_append_one _ rfl _ _ 25 rfl 32 i0 (.agg #[.int .i64 0, .int .i64 0]) 2 16 Try.underlying25 HI.out HZ0.out HZ1.out HZ2.out rfl (by decide) u10 l0.length _ rfl (World.ownsRow.alloc HROW.out _) ⟨wr.heap.size, 0, none⟩ 1 [.int .i64 (y.1 : Int), .int .i64 (y.2 : Int)] rfl rfl (fd_new _ _ _ _) (fd_one _ _) hn1 hn2 ?_; intro g9 cap9 w10 hown10 hgr10 hmv10; have HTT := Lib.hid (HL.out.app HBL.out hown10 hgr10 hmv10); clear hown10 hgr10 hmv10)
            go_roundw
            case rel => exact ⟨j + 1, by omega, by go_num, by rw [HT3.out]; exact HTT.out.1, HTT.out.2⟩
            case measure => simp [intOf]; omega
          · have z3 : decide (3 ≤ y.1) = false := by simpa using h3
            have HT2 := HTK.out
            rw [if_neg h3] at HT2
            have HT3 := Lib.hid HT2
            clear HT2 HTK
            go_wp2_with fail
            go_roundw
            case rel => exact ⟨j + 1, by omega, by go_num, by rw [HT3.out]; exact HL.out, HBL.out⟩
            case measure => simp [intOf]; omega
        · obtain ⟨j', hj'⟩ : ∃ j' : Nat, j' = j := ⟨j, rfl⟩
          obtain rfl : j = l.length := by omega
          have hLm := HL.out
          rw [List.take_length, HEQ.out] at hLm
          have HLM := Lib.hid hLm
          have HFR6 := Lib.hid (HFR.out.below HBL.out)
          have HD6 := Lib.hid (HD5.out.news HBL.out)
          clear hLm HL HFR HD5 HBL HEQ
          obtain ⟨A10, c10, rfl⟩ := HLM.out.slice
          go_wp2_with fail
          go_loopw [12] (fun i wq => ∃ i1 n1 : Nat, i1 ≤ m.length ∧ i = .int .i64 i1 ∧ wq = wr.drewN n1) (fun i _ => m.length - (intOf i).toNat)
          case atStart => exact ⟨0, 0, by omega, rfl, rfl⟩
          case round =>
            obtain ⟨i1, n1, hi1, rfl, rfl⟩ := hrel
            by_cases him : i1 < m.length
            · obtain ⟨g9, rfl, hc9⟩ := HFR6.out.cells (by omega)
              obtain ⟨g10, rfl, hc10⟩ := HLM.out.cells (by omega)
              obtain ⟨q0, q1⟩ := hc9 i1 him
              obtain ⟨d0, d1⟩ := hc10 i1 him
              have hq := eq_chain (m[i1].1 : Int) (m[i1].2 : Int)
              clear hc9 hc10
              generalize m[i1] = y at *
              go_wp2_with fail
              go_quiet (fail)
              clear hq
              go_wp2_with fail
              go_roundw
              case rel => exact ⟨i1 + 1, _, by omega, by go_num, rfl⟩
              case measure => simp [intOf]; omega
            · obtain rfl : i1 = m.length := by omega
              have HD7 := Lib.hid (HD6.out.news (below_drewN (Below.refl _ _) n1))
              go_wp2_with fail
              go_roundw
              case rel => exact ⟨k + 1, _, by omega, by go_num, HD7.out⟩
              case measure => simp [intOf]; omega
      -- END round
    · have HB := Lib.hid (Duo.below hD)
      clear hD
      go_wp2_with fail
      go_ret
      exact ⟨rfl, HB.out⟩
end Go.Proofs.Ytakbocaemlgbaaa.Bs
