/-
  The walk of the statement ContextChain: for every order, cells and text it returns true, and writes nothing that was there.
-/
import Derived.Test.YtjeppcaniafgpaaCtxSpeaks
import Derived.Test.YtjeppcaniafgpaaCtxHas
set_option linter.unusedVariables false
set_option linter.unusedSimpArgs false
namespace Go.Proofs.Ytjeppcaniafgpaa.Cx
open Go.RowKit
open Rc Ar Fq
theorem below_run {w w1 w2 : World} {O' : Paint} (hb : Below w.heap.size w w1) (h : Step (cols 10) w1 (fun _ => 0) w2 O') : Below w.heap.size w w2 := hb.trans ((step_below h).mono hb.size)
set_option maxRecDepth 100000 in
set_option maxHeartbeats 4000000 in
theorem chain_walk (o n : Int) (t : ByteArray) (w : World) (ho : 0 ≤ o ∧ o ≤ 255) (hn : 0 ≤ n ∧ n ≤ 65535) (ht : t.size ≤ maxLen) :
    Calls Try.prog 5 #[.int .u8 o, .int .u16 n, .string t] w fun x w' => x = .returned (.bool true) ∧ Below w.heap.size w w' := by
  unfold maxLen at ht
  have HSP := Lib.hid (speaks18 w)
  obtain ⟨o1, o2⟩ := ho
  obtain ⟨n1, n2⟩ := hn
  go_enter Try.func5, Try.ntmps5
  go_wp2_with fail
  refine HSP.out.mono ?_
  rintro x w1 ⟨rfl, hb1⟩
  have HB1 := Lib.hid hb1
  have HNW := Lib.hid (new_rw o n w1 (fun _ => 0) 10)
  clear hb1 HSP
  go_wp2_with fail
  refine HNW.out.mono ?_
  rintro x w2 ⟨O2, d, m2, rfl, hs2, h2⟩
  have HC2 := Lib.hid (And.intro (hs2.nil (cs := cols 10)) h2)
  clear hs2 h2 HNW
  go_upto_region 5 with (fail)
  have hmm : (if (400 : Int) < (t.size : Int) then (400 : Int) else (t.size : Int)) = min (t.size : Int) 400 := by split <;> omega
  try rw [hmm]
  clear hmm
  have hus : (t.extract 0 (min (t.size : Int) 400).toNat).size ≤ 400 := by simp; omega
  generalize min (t.size : Int) 400 = mn at *
  generalize t.extract 0 mn.toNat = s at *
  go_wp2_with fail
  go_loopw [8] (fun i wr => ∃ (j : Nat) (O1 : Paint) (m1 : CM) (r1 : Rw), j ≤ s.size ∧ i = .int .i64 (j : Int) ∧ Step (cols 10) w1 (fun _ => 0) wr O1 ∧ RwAt wr O1 10 d m1 r1 ∧ r1.rs ≤ j) (fun i _ => s.size - (intOf i).toNat)
  case atStart => exact ⟨0, O2, m2, _, Nat.zero_le _, rfl, HC2.out.1, HC2.out.2, Nat.le_refl _⟩
  case round =>
    obtain ⟨j, O1, m1, r1, hj, rfl, hs1, h1, hrs⟩ := hrel
    clear HC2
    by_cases hlt : j < s.size
    · as_aux_lemma =>
      have hx := UInt8.toNat_lt s[j]
      have e1 : (0 : Int) ≤ (j : Int) := by omega
      have e2 : (j : Int) < (s.size : Int) := by omega
      have e3 : (j : Int).toNat < s.size := by omega
      have HLN := Lib.hid (learn_any h1 (s := s[j].toNat) (by omega) (-1) (by omega))
      have HRS := Lib.hid (show (r1.learn s[j].toNat (-1)).rs ≤ j + 1 from by have := learn_rs r1 s[j].toNat (-1); omega)
      obtain ⟨k1, k2⟩ := Rw.learn_has h1.ok s[j].toNat
      have HK1 := Lib.hid k1
      have HS1 := Lib.hid hs1
      have HXX := Lib.hid (show s[j].toNat < 256 by omega)
      clear h1 hs1 k1 hrs
      go_wp2_with fail
      refine HLN.out.mono ?_
      rintro x w4 ⟨rfl, O4, m4, hs4, h4⟩
      generalize r1.learn s[j].toNat (-1) = r4 at *
      have HS4 := Lib.hid (HS1.out.trans hs4)
      have H4 := Lib.hid h4
      have HLG := Lib.hid (longest_rw h4)
      have hp17 := h4.ok.short.1
      have HT := Lib.hid (fun n (k : Nat) (hk : k < r4.pth.length) => show Calls Try.prog 23 #[.pointer (some ⟨d, 0, none⟩), .int .i64 (k : Int)] (w4.drewN n) fun x w' => ∃ a, x = .returned (.pointer (some ⟨a, 0, none⟩)) ∧ ∃ q, w' = w4.drewN (n + q) from by
        obtain ⟨i, l, q1, q2⟩ := h4.ok.at hk
        exact (table_rw (h4.idle ((Step.refl [] w4 O4).drewN n)) q1 q2).mono fun x w' ⟨e, q, hq⟩ => ⟨_, e, q, by rw [hq]; simp [World.drewN, Nat.add_assoc]⟩)
      have HTN := Lib.hid (fun W (h0 : Step [] w4 O4 W O4) => show Calls Try.prog 23 #[.pointer (some ⟨d, 0, none⟩), .int .i64 (r4.pth.length : Int)] W fun x w' => x = .returned (.pointer none) ∧ Step [] w4 O4 w' O4 from
        (table_no (h4.idle h0) _ (.inr (by omega))).mono fun x w' ⟨e, hw⟩ => ⟨e, by rw [← hw]; exact h0⟩)
      have HLF := Lib.hid (fun W (h0 : Step [] w4 O4 W O4) => show Calls Try.prog 20 #[.pointer (some ⟨d, 0, none⟩)] W fun x w' => x = .returned (.int .i64 ((r4.cells : Int) - (r4.used : Int))) ∧ Step [] w4 O4 w' O4 from
        (left_rw (h4.idle h0)).mono fun x w' ⟨e, q, hw⟩ => ⟨e, by rw [hw]; exact h0.drewN q⟩)
      obtain ⟨i0, l0, q1, q2⟩ := h4.ok.at k2
      have HT0 := Lib.hid (fun W (h0 : Step [] w4 O4 W O4) => show Calls Try.prog 23 #[.pointer (some ⟨d, 0, none⟩), .int .i64 0] W fun x w' => x = .returned (.pointer (some ⟨m4.tb i0, 0, none⟩)) ∧ Step [] w4 O4 w' O4 from
        (table_rw (h4.idle h0) q1 q2).mono fun x w' ⟨e, q, hw⟩ => ⟨e, by rw [hw]; exact h0.drewN q⟩)
      have hhb := HK1.out
      rw [Rw.hasK_at q1 q2] at hhb
      have HHS := Lib.hid (fun W (h0 : Step [] w4 O4 W O4) => has_rw h4 q2 HXX.out W h0)
      rw [hhb] at HHS
      have hcu : r4.used ≤ r4.cells := h4.ok.used
      have HCU := Lib.hid hcu
      clear hs4 h4 HLN HS1 q1 q2 hhb hcu
      go_wp2_with fail
      refine HLG.out.mono ?_
      rintro x w5 ⟨rfl, rfl⟩
      go_wp2_with fail
      go_loopw [10] (fun i wr => ∃ q : Nat, q ≤ r4.pth.length ∧ i = .int .i64 (q : Int) ∧ ∃ nq, wr = w4.drewN nq) (fun i _ => r4.pth.length - (intOf i).toNat)
      case atStart => exact ⟨0, Nat.zero_le _, rfl, 0, rfl⟩
      case round =>
        obtain ⟨q, hq, rfl, nq, rfl⟩ := hrel
        by_cases hlq : q < r4.pth.length
        · have g1 : (q : Int) ≤ (r4.pth.length : Int) - 1 := by omega
          have HTQ := Lib.hid (HT.out nq q hlq)
          clear HT
          go_wp2_with fail
          refine HTQ.out.mono ?_
          rintro x w6 ⟨a, rfl, n6, rfl⟩
          go_wp2_with fail
          go_roundw
          case rel => exact ⟨q + 1, by omega, by go_num, _, rfl⟩
          case measure => simp [intOf]; omega
        · obtain rfl : q = r4.pth.length := by omega
          have g1 : ¬ (r4.pth.length : Int) ≤ (r4.pth.length : Int) - 1 := by omega
          go_wp2_with fail
          have hcu := HCU.out
          have g3 : ¬ (r4.pth.length : Int) - 1 < 0 := by omega
          have g4 : decide ((r4.pth.length : Int) - 1 < 0) = false := decide_eq_false g3
          have g5 : IntKind.i64.wrap ((r4.pth.length : Int) - 1 + 1) = (r4.pth.length : Int) := by rw [IntKind.wrap_i64]; omega
          have g8 : IntKind.i64.wrap (r4.pth.length : Int) = (r4.pth.length : Int) := by rw [IntKind.wrap_i64]; omega
          have g6 : ¬ (r4.cells : Int) - (r4.used : Int) < 0 := by omega
          have g7 : decide ((r4.cells : Int) - (r4.used : Int) < 0) = false := decide_eq_false g6
          have e4 : (j : Int).toNat = j := rfl
          have hq0 : Step [] w4 O4 (w4.drewN nq).drew O4 := ((Step.refl [] w4 O4).drewN nq).drew
          have hq1 : Step [] w4 O4 (w4.drewN (nq + 1)) O4 := (Step.refl [] w4 O4).drewN (nq + 1)
          clear hcu hlq hq HLG HT k2
          go_region_held3 (fun W' => Step [] w4 O4 W' O4) (first | assumption) (first | (go_at_call 20; (with_reducible refine (HLF.out _ (by assumption)).mono ?_); rintro z w6 ⟨rfl, hq6⟩) | (go_at_call 28; (with_reducible refine (HHS.out _ (by assumption)).mono ?_); rintro z w6 ⟨rfl, hq6⟩) | (go_at_call 23; (with_reducible refine (HT0.out _ (by assumption)).mono ?_); rintro z w6 ⟨rfl, hq6⟩) | (go_at_call 23; (with_reducible refine (HTN.out _ (by assumption)).mono ?_); rintro z w6 ⟨rfl, hq6⟩))
          all_goals
            go_wp2_with fail
            go_roundw
            case rel => exact ⟨j + 1, O4, m4, r4, by omega, by go_num, HS4.out.trans (by first | exact hq6.nil | exact Step.nil (by assumption)), by first | exact H4.out.idle hq6 | exact H4.out.idle (by assumption), HRS.out⟩
            case measure => simp [intOf]; omega
    · obtain rfl : j = s.size := by omega
      have HF := Lib.hid (below_run HB1.out hs1)
      clear hs1 h1
      go_wp2_with fail
      go_ret
      exact ⟨rfl, HF.out⟩
end Go.Proofs.Ytjeppcaniafgpaa.Cx
