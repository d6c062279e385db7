/-
  Contracts of the developers' decoder of layer 3, more: Direct, Where, Take; and of none.
-/
import Derived.Test.YtakbocaemlgbaaaRcDecB
namespace Go.Proofs.Ytakbocaemlgbaaa.Rc
open Go.RowKit
def DirectingD (w : World) (O : Paint) (c a tot : Nat) (d : Dec) (wr : World) : Prop := Step [c] w O wr O ∧ DecAt wr O c a d tot
set_option maxRecDepth 100000 in
set_option maxHeartbeats 1000000 in
theorem decdirect {w : World} {O : Paint} {c a tot : Nat} {d : Dec} (h : DecAt w O c a d tot) (n : Nat) (hn : n ≤ 32) :
    Calls Try.prog 132 #[.pointer (some ⟨a, 0, none⟩), .int .i64 (n : Int)] w fun x w' => x = .returned (.int .u32 (((gotN d n).2 : Nat) : Int)) ∧ Step [c] w O w' O ∧ DecAt w' O c a (gotN d n).1 tot := by
  have H0 := Lib.hid h
  have HF := Lib.hid (fine_gotN h.2)
  have HL := Lib.hid (gotN_lt d)
  clear h
  go_enter Try.func132, Try.ntmps132
  go_wp2
  go_loopw [5, 13] (fun v i wr => ∃ k : Nat, k ≤ n ∧ i = .int .i64 k ∧ v = .int .u32 (((gotN d k).2 : Nat) : Int) ∧ DirectingD w O c a tot (gotN d k).1 wr) (fun _ i _ => n - (intOf i).toNat)
  case atStart => exact ⟨0, by omega, rfl, rfl, Step.refl _ _ _, H0.out⟩
  case round =>
    clear H0
    obtain ⟨k, hk, rfl, rfl, hst, hen⟩ := hrel
    by_cases hlt : k < n
    · have HS1 := Lib.hid (show (gotN d (k + 1)).1 = (gotN d k).1.getDirect from rfl)
      have HS2 := Lib.hid (show (gotN d (k + 1)).2 = 2 * (gotN d k).2 + (gotN d k).1.directOf from rfl)
      have hvl : (gotN d k).2 < 2147483648 := Nat.lt_of_lt_of_le (HL.out k) (Nat.le_trans (Nat.pow_le_pow_right (by omega) (by omega : k ≤ 31)) (by omega))
      generalize (gotN d k).2 = v at *
      generalize (gotN d k).1 = D at *
      obtain ⟨hraw, hfine⟩ := hen
      obtain ⟨⟨hc2, hc3, _, _⟩, ⟨hf2, hf3, _⟩, hal, hoa⟩ := hraw.cells
      have hsz : D.size < 4294967296 := hfine.2.1
      have hcz : D.code < 4294967296 := hfine.2.2
      have HRB := getDirect_raw hfine
      have HFD := Lib.hid (fine_getDirect hfine)
      obtain ⟨j1, j2⟩ := hraw.setSize (D.size / 2)
      have hdiv : ((D.size / 2 : Nat) : Int) = (D.size : Int) / 2 := by simp
      rw [hdiv] at j1 j2
      have J1 := Lib.hid j1
      have J2 := Lib.hid j2
      have HST := Lib.hid hst
      clear hraw hfine hoa hst j1 j2 hdiv
      by_cases hB : D.code < D.size / 2
      · rw [if_pos hB] at HRB
        have HRB' := Lib.hid HRB
        have HGE := Lib.hid (show D.getDirect = wide { D with size := D.size / 2 } by unfold Dec.getDirect; rw [if_pos hB])
        have HOF := Lib.hid (show D.directOf = 0 by unfold Dec.directOf; rw [if_pos hB])
        clear HRB
        go_wp2
        generalize wr.setCell ⟨a, 3, none⟩ (.int .u32 ((D.size : Int) / 2)) = W1 at *
        obtain ⟨⟨m2, m3, _, _⟩, ⟨n2, n3, _⟩, hal1, _⟩ := J1.out.cells
        simp only at m2 m3
        have hd : decide (D.size / 2 ≤ D.code) = false := by rw [decide_eq_false_iff_not]; omega
        clear hc2 hc3 hf2 hf3 hB
        generalize D.size / 2 = Z at *
        go_quiet (fail)
        go_wp2_with fail
        refine (decturn (J1.out.drewN _) HRB'.out).mono ?_
        rintro x w3 ⟨rfl, hst3, hen3⟩
        have HST3 := Lib.hid hst3.from_drewN
        have HEN3 := Lib.hid hen3
        clear hst3 hen3
        go_wp2
        go_roundw
        case rel => exact ⟨k + 1, by omega, by go_num, by rw [HS2.out, HOF.out]; go_num, (HST.out.trans J2.out).trans HST3.out, by rw [HS1.out, HGE.out]; exact HEN3.out, by rw [HS1.out]; exact HFD.out⟩
        case measure => simp [intOf]; omega
      · rw [if_neg hB] at HRB
        have HRB' := Lib.hid HRB
        have HGE := Lib.hid (show D.getDirect = wide { D with code := D.code - D.size / 2, size := D.size / 2 } by unfold Dec.getDirect; rw [if_neg hB])
        have HOF := Lib.hid (show D.directOf = 1 by unfold Dec.directOf; rw [if_neg hB])
        clear HRB
        go_wp2
        generalize wr.setCell ⟨a, 3, none⟩ (.int .u32 ((D.size : Int) / 2)) = W1 at *
        obtain ⟨⟨m2, m3, _, _⟩, ⟨n2, n3, _⟩, hal1, _⟩ := J1.out.cells
        simp only at m2 m3
        have hd : decide (D.size / 2 ≤ D.code) = true := by rw [decide_eq_true_iff]; omega
        clear hc2 hc3 hf2 hf3
        generalize D.size / 2 = Z at *
        have g1 : (Z : Int) ≤ (D.code : Int) := by omega
        have HC := Lib.hid (show (D.code : Int) - (Z : Int) = ((D.code - Z : Nat) : Int) by omega)
        have e4 : IntKind.u32.wrap ((D.code : Int) - (Z : Int)) = (D.code : Int) - (Z : Int) := IntWalk.u32_in _ (by omega)
        clear hB
        go_quiet (fail)
        go_wp2
        go_region
        all_goals
          clear e4
          go_wp2_with fail
          rw [HC.out]
          obtain ⟨o1, o2⟩ := (J1.out.drewN (nq + 1)).setCode (D.code - Z)
          have O2 := Lib.hid o2.from_drewN
          refine (decturn o1 HRB'.out).mono ?_
          clear o1 o2
          rintro x w3 ⟨rfl, hst3, hen3⟩
          have HST3 := Lib.hid hst3
          have HEN3 := Lib.hid hen3
          clear hst3 hen3
          go_wp2
          go_roundw
          case rel => exact ⟨k + 1, by omega, by go_num, by rw [HS2.out, HOF.out]; go_num, ((HST.out.trans J2.out).trans O2.out).trans HST3.out, by rw [HS1.out, HGE.out]; exact HEN3.out, by rw [HS1.out]; exact HFD.out⟩
          case measure => simp [intOf]; omega
    · obtain rfl : k = n := by omega
      have HST := Lib.hid hst
      have HEN := Lib.hid hen
      clear hst hen
      go_wp2
      go_ret
      exact ⟨rfl, HST.out, HEN.out⟩
theorem nil_dbit (q : Addr) (w : World) : Calls Try.prog 131 #[.pointer none, .pointer (some q)] w fun x w' => x = .returned (.int .i64 0) ∧ w = w' := by
  go_enter Try.func131, Try.ntmps131
  go_wp2
  go_ret
  exact ⟨rfl, rfl⟩
theorem nil_ddirect (n : Int) (w : World) : Calls Try.prog 132 #[.pointer none, .int .i64 n] w fun x w' => x = .returned (.int .u32 0) ∧ w = w' := by
  go_enter Try.func132, Try.ntmps132
  go_wp2
  go_ret
  exact ⟨rfl, rfl⟩
theorem nil_bad (w : World) : Calls Try.prog 36 #[.pointer none] w fun x w' => x = .returned (.bool true) ∧ w = w' := by
  go_enter Try.func36, Try.ntmps36
  go_wp2
  go_ret
  exact ⟨rfl, rfl⟩
theorem nil_done (w : World) : Calls Try.prog 35 #[.pointer none] w fun x w' => x = .returned (.bool false) ∧ ∃ n, w' = w.drewN n := by
  go_enter Try.func35, Try.ntmps35
  go_wp2
  go_quiet (fail)
  go_wp2
  go_ret
  exact ⟨rfl, _, rfl⟩
end Go.Proofs.Ytakbocaemlgbaaa.Rc
