/-
  The walk of the statement ChainRises: for every text, window and cut it returns true, and writes nothing that was there.
-/
import Derived.Test.YthejbnodalnnpaaChainFindsWalk
import Derived.Test.YthejbnodalnnpaaChainRisesMath
import Derived.Deep.CutBlock
import Derived.Deep.DeepCutAuto
namespace Go.Proofs.Ythejbnodalnnpaa.Ch
open Go.RowKit Go.Maps
open Mt
set_option maxRecDepth 100000 in
set_option maxHeartbeats 8000000 in
theorem rises_walk (t : ByteArray) (wn cu : Nat) (hwn : wn < 256) (hcu : cu < 256) (w : World) (ht : t.size ≤ maxLen) :
    Calls Try.prog 9 #[.string t, .int .u8 (wn : Int), .int .u8 (cu : Int)] w fun x w' => x = .returned (.bool true) ∧ Below w.heap.size w w' := by
  unfold maxLen at ht
  go_enter Try.func9, Try.ntmps9
  go_wp2_with fail
  refine (speaks7 w).mono ?_
  rintro x w1 ⟨rfl, hb1⟩
  have HB1 := Lib.hid hb1
  clear hb1
  go_upto_region 4 with (fail)
  have hus : (t.extract 0 (if (300 : Int) < (t.size : Int) then (300 : Int) else (t.size : Int)).toNat).size ≤ 300 := by
    split <;> simp <;> omega
  generalize (if (300 : Int) < (t.size : Int) then (300 : Int) else (t.size : Int)) = mn at *
  generalize t.extract 0 mn.toNat = s at *
  have HN := Lib.hid (new_ok HB1.out s (wn : Int) (cu : Int) (by omega))
  go_wp2_with fail
  refine HN.out.mono ?_
  rintro x w2 ⟨O, c, a, B, v, rfl, hF, _⟩
  have HF := Lib.hid hF
  clear hF HN HB1
  go_wp2_with fail
  go_loopw [8] (fun i wr => ∃ k : Nat, k ≤ s.size ∧ i = .int .i64 k ∧ FinOk w O c a s (wn : Int) (cu : Int) k B v wr) (fun i _ => s.size - (intOf i).toNat)
  case atStart => exact ⟨0, by omega, rfl, HF.out⟩
  case round =>
    clear HF
    obtain ⟨k, hk, rfl, hF⟩ := hrel
    obtain ⟨wo, rfl⟩ : ∃ wo : World, wo = wr := ⟨_, rfl⟩
    have HNX := Lib.hid (next_ok hF (by omega) (by omega) (by omega))
    have HFB := Lib.hid hF.below
    clear hF
    by_cases hlt : k < s.size
    · have HMN := Lib.hid (show min (k + 1) s.size = k + 1 by omega)
      have HRI := Lib.hid (foundL_rising s (wn : Int) (cu : Int) k)
      have HCU := Lib.hid (foundL_cut s (wn : Int) (cu : Int) k)
      as_aux_lemma =>
      -- BEGIN round
      go_wp2_with fail
      refine HNX.out.mono ?_
      rintro x w3 ⟨v9, rfl, hfo, hF3⟩
      rw [HMN.out] at hF3
      have HF3 := Lib.hid hF3
      have HFO := Lib.hid hfo
      clear hfo hF3 HNX HMN
      generalize foundL s (wn : Int) (cu : Int) k = l at *
      obtain ⟨A9, c9, rfl⟩ := HFO.out.slice
      have hlc : l.length ≤ cu := by have := HCU.out; omega
      go_wp2_with fail
      go_loopw [10] (fun i wr => ∃ j n : Nat, j ≤ l.length ∧ i = .int .i64 j ∧ wr = w3.drewN n) (fun i _ => l.length - (intOf i).toNat)
      case atStart => exact ⟨0, 0, by omega, rfl, rfl⟩
      case round =>
        obtain ⟨j, n, hj, rfl, rfl⟩ := hrel
        by_cases hjl : j < l.length
        · obtain ⟨g9, rfl, hc9⟩ := HFO.out.cells (by omega)
          obtain ⟨a0, a1⟩ := hc9 j hjl
          obtain ⟨r1, r2, r3, r4, r5, r6, r7⟩ := Rising.at HRI.out j hjl
          have HC9 := Lib.hid hc9
          have HR6 := Lib.hid r6
          clear hc9 r6
          obtain ⟨nn, hnn⟩ : ∃ nn, nn = l[j].1 := ⟨_, rfl⟩
          obtain ⟨dd, hdd⟩ : ∃ dd, dd = l[j].2 := ⟨_, rfl⟩
          rw [← hnn] at r1 r2 a0
          rw [← hdd] at r3 r4 r5 a1
          rw [← hnn, ← hdd] at HR6
          have HR7 : Hid (∀ (h0 : 0 < j), (l[j - 1]'(by omega)).1 < nn ∧ (l[j - 1]'(by omega)).2 < dd) := Lib.hid (fun h0 => by rw [hnn, hdd]; exact r7 h0)
          clear r7 hnn hdd
          have t1 : ¬ ((nn : Int) < 3) := by omega
          have t2 : ¬ ((s.size : Int) - (k : Int) < (nn : Int)) := by omega
          have t3 : ¬ ((273 : Int) < (nn : Int)) := by omega
          have t4 : ¬ ((dd : Int) < 1) := by omega
          have t5 : ¬ ((k : Int) < (dd : Int)) := by omega
          have t6 : ¬ ((wn : Int) < (dd : Int)) := by omega
          go_upto_region 12 with (fail)
          go_quiet (fail)
          revert nq
          intro n2
          go_upto_region 13 with (fail)
          go_cut [103] (fun v wc => v = .bool false ∧ w3.drewN (n + n2) = wc)
          case first =>
            as_aux_lemma =>
            -- BEGIN test
            cases j with
            | zero =>
              go_wp2_with fail
              go_meet
              exact ⟨rfl, rfl⟩
            | succ j =>
              obtain ⟨q1, q2⟩ := HR7.out (by omega)
              obtain ⟨p0, p1⟩ := HC9.out j (by omega)
              simp only [Nat.add_sub_cancel] at q1 q2
              generalize l[j] = y at *
              have q1' : ¬ ((nn : Int) ≤ (y.1 : Int)) := by omega
              have q2' : ¬ ((dd : Int) ≤ (y.2 : Int)) := by omega
              go_wp2_with fail
              go_meet
              exact ⟨rfl, rfl⟩
            -- END test
          case rest =>
            obtain ⟨rfl, rfl⟩ := hcut
            -- BEGIN inner
            clear a0 a1 HR7 HC9 t1 t2 t3 t4 t5 t6
            go_wp2_with fail
            go_loopw [13] (fun i wr => ∃ m n3 : Nat, m ≤ nn ∧ i = .int .i64 m ∧ wr = w3.drewN n3) (fun i _ => nn - (intOf i).toNat)
            case atStart => exact ⟨0, n + n2, by omega, rfl, rfl⟩
            case round =>
              obtain ⟨m, n3, hm, rfl, rfl⟩ := hrel
              by_cases hmn : m < nn
              · have hsame := HR6.out m hmn
                have hkm : k + m < s.size := by omega
                have hkd : k + m - dd < s.size := by omega
                have e1 : (0 : Int) ≤ (k : Int) + (m : Int) := by omega
                have e2 : (k : Int) + (m : Int) < (s.size : Int) := by omega
                have e3 : ((k : Int) + (m : Int)).toNat = k + m := by omega
                have e4 : IntKind.i64.wrap ((k : Int) + (m : Int)) = (k : Int) + (m : Int) := IntWalk.i64_in _ (by omega)
                have d1 : (0 : Int) ≤ (k : Int) + (m : Int) - (dd : Int) := by omega
                have d1' : (dd : Int) ≤ (k : Int) + (m : Int) := by omega
                have d2 : (k : Int) + (m : Int) - (dd : Int) < (s.size : Int) := by omega
                have d3 : ((k : Int) + (m : Int) - (dd : Int)).toNat = k + m - dd := by omega
                have d4 : IntKind.i64.wrap ((k : Int) + (m : Int) - (dd : Int)) = (k : Int) + (m : Int) - (dd : Int) := IntWalk.i64_in _ (by omega)
                have hbe : ((s[k + m].toNat : Int) != (s[k + m - dd].toNat : Int)) = false := by rw [bt_at, bt_at, hsame]; simp
                have hbe2 : ((s[k + m].toNat : Int) == (s[k + m - dd].toNat : Int)) = true := by rw [bt_at, bt_at, hsame]; simp
                clear hsame
                go_wp2_with fail
                go_quiet (fail)
                clear e4 d4
                go_wp2_with fail
                go_roundw
                case rel => exact ⟨m + 1, _, by omega, by go_num, rfl⟩
                case measure => simp [intOf]; omega
              · obtain ⟨m', hm'⟩ : ∃ m' : Nat, m' = m := ⟨m, rfl⟩
                obtain rfl : m = nn := by omega
                go_wp2_with fail
                go_roundw
                case rel => exact ⟨j + 1, n3, by omega, by go_num, rfl⟩
                case measure => simp [intOf]; omega
            -- END inner
        · obtain ⟨j', hj'⟩ : ∃ j' : Nat, j' = j := ⟨j, rfl⟩
          obtain rfl : j = l.length := by omega
          have HF5 := Lib.hid (HF3.out.news (below_drewN (Below.refl _ _) n))
          go_wp2_with fail
          go_roundw
          case rel => exact ⟨k + 1, by omega, by go_num, HF5.out⟩
          case measure => simp [intOf]; omega
      -- END round
    · as_aux_lemma =>
      go_wp2_with fail
      go_ret
      exact ⟨rfl, HFB.out⟩
end Go.Proofs.Ythejbnodalnnpaa.Ch
