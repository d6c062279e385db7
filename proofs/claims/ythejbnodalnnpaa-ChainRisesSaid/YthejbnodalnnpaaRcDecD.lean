/-
  Contracts of the developers' decoder of layer 3, more: Direct, Where, Take; and of none.
-/
import Derived.Test.YthejbnodalnnpaaRcDecB
namespace Go.Proofs.Ythejbnodalnnpaa.Rc
open Go.RowKit
def DirectingD (w : World) (O : Paint) (c a tot : Nat) (d : Dec) (wr : World) : Prop := Step [c] w O wr O ∧ DecAt wr O c a d tot
set_option maxHeartbeats 400000 in
theorem decwhere {w : World} {O : Paint} {c a tot : Nat} {d : Dec} (h : DecAt w O c a d tot) (t : Nat) (h1 : 1 ≤ t) (h3 : t ≤ 65536) :
    Calls Try.prog 68 #[.pointer (some ⟨a, 0, none⟩), .int .u32 (t : Int)] w fun x w' => x = .returned (.int .u32 ((d.whereIn t : Nat) : Int)) ∧ Step [c] w O w' O ∧ DecAt w' O c a d t := by
  obtain ⟨hraw, hfine⟩ := h
  obtain ⟨⟨hc2, hc3, hc4, _⟩, ⟨hf2, hf3, hf4⟩, hal, hoa⟩ := hraw.cells
  have hsz : d.size < 4294967296 := hfine.2.1
  have hcz : d.code < 4294967296 := hfine.2.2
  have hq1 : 1 ≤ d.size / t := by rw [Nat.le_div_iff_mul_le (by omega)]; have := hfine.1; omega
  have hq2 : d.size / t < 4294967296 := Nat.lt_of_le_of_lt (Nat.div_le_self _ _) hsz
  have hq3 : d.code / (d.size / t) < 4294967296 := Nat.lt_of_le_of_lt (Nat.div_le_self _ _) hcz
  have HW := Lib.hid (show d.whereIn t = min (d.code / (d.size / t)) (t - 1) from rfl)
  have hdiv : (d.size : Int) / (t : Int) = ((d.size / t : Nat) : Int) := by simp
  have hdiv2 : (d.code : Int) / ((d.size / t : Nat) : Int) = ((d.code / (d.size / t) : Nat) : Int) := by simp
  generalize d.code / (d.size / t) = Q at *
  generalize d.size / t = Z at *
  have e1 : (d.size : Int) / (t : Int) % 4294967296 = (Z : Int) := by rw [hdiv]; omega
  have e2 : (d.code : Int) / (Z : Int) % 4294967296 = (Q : Int) := by rw [hdiv2]; omega
  have e3 : IntKind.u32.wrap ((t : Int) - 1) = (t : Int) - 1 := IntWalk.u32_in _ (by omega)
  have z1 : ((t : Int) == 0) = false := by rw [beq_eq_false_iff_ne]; omega
  have z2 : ((Z : Int) == 0) = false := by rw [beq_eq_false_iff_ne]; omega
  have HRAW := Lib.hid hraw
  have HF := Lib.hid hfine
  clear hraw hfine hoa hdiv hdiv2
  go_enter Try.func68, Try.ntmps68
  go_wp2_with fail
  refine (istotal_any t h1 h3 _).mono ?_
  rintro x w1 ⟨rfl, rfl⟩
  go_wp2
  obtain ⟨j1, j2⟩ := HRAW.out.setTot t
  generalize w.setCell ⟨a, 4, none⟩ (.int .u32 (t : Int)) = W1 at *
  obtain ⟨⟨m2, m3, _, _⟩, _, hal1, _⟩ := j1.cells
  have J1 := Lib.hid j1
  have J2 := Lib.hid j2
  clear j1 j2 hc2 hc3 hc4 hf2 hf3 hf4
  go_region
  all_goals
    go_wp2
    all_goals
      go_ret
      exact ⟨ret_num (by rw [HW.out]; omega), J2.out.drew, J1.out.drew, HF.out⟩
set_option maxHeartbeats 400000 in
theorem dectake {w : World} {O : Paint} {z y : Nat} {d : Dec} {c : Nat} (h : DecAt w O z y d c) (a b : Nat) (h1 : 1 ≤ b) (h2 : a + b ≤ c) (h3 : c ≤ 65536) :
    Calls Try.prog 69 #[.pointer (some ⟨y, 0, none⟩), .int .u32 (a : Int), .int .u32 (b : Int)] w fun x w' => x = .returned (.tuple #[]) ∧ Step [z] w O w' O ∧ DecAt w' O z y (d.take a b c) c := by
  obtain ⟨hraw, hfine⟩ := h
  obtain ⟨⟨hc2, hc3, hc4, _⟩, ⟨hf2, hf3, hf4⟩, hal, hoa⟩ := hraw.cells
  have hsz : d.size < 4294967296 := hfine.2.1
  have hcz : d.code < 4294967296 := hfine.2.2
  have hle : d.size / c * (a + b) ≤ d.size := Nat.le_trans (Nat.mul_le_mul_left _ h2) (Nat.div_mul_le_self _ _)
  rw [Nat.mul_add] at hle
  have HRB := Lib.hid (take_raw hfine h1 h2 h3)
  have HF := Lib.hid (fine_take hfine h1 h2 h3)
  have HGE := Lib.hid (show d.take a b c = wide { d with code := (d.code + 4294967296 - d.size / c * a % 4294967296) % 4294967296, size := d.size / c * b } from rfl)
  have hq2 : d.size / c < 4294967296 := Nat.lt_of_le_of_lt (Nat.div_le_self _ _) hsz
  have hdiv : (d.size : Int) / (c : Int) = ((d.size / c : Nat) : Int) := by simp
  generalize d.size / c = R at *
  have hma : (R : Int) * (a : Int) = ((R * a : Nat) : Int) := by simp
  have hmb : (R : Int) * (b : Int) = ((R * b : Nat) : Int) := by simp
  have e1 : (d.size : Int) / (c : Int) % 4294967296 = (R : Int) := by rw [hdiv]; omega
  have z1 : ((c : Int) == 0) = false := by rw [beq_eq_false_iff_ne]; omega
  have m0 : (0 : Int) ≤ (R : Int) * (a : Int) := by rw [hma]; omega
  have m1 : (R : Int) * (a : Int) < 4294967296 := by rw [hma]; omega
  have m2 : (0 : Int) ≤ (R : Int) * (b : Int) := by rw [hmb]; omega
  have m3 : (R : Int) * (b : Int) < 4294967296 := by rw [hmb]; omega
  have HCO := Lib.hid (show ((d.code : Int) - (R : Int) * (a : Int)) % 4294967296 = (((d.code + 4294967296 - R * a % 4294967296) % 4294967296 : Nat) : Int) by
    rw [hma]
    have l1 : R * a < 4294967296 := by omega
    generalize R * a = A at *
    omega)
  have HMB := Lib.hid (show (R : Int) * (b : Int) % 4294967296 = ((R * b : Nat) : Int) by rw [Int.emod_eq_of_lt m2 m3]; exact hmb)
  have HE1 := Lib.hid e1
  have HRAW := Lib.hid hraw
  clear hraw hfine hoa hle hdiv hma hmb e1
  go_enter Try.func69, Try.ntmps69
  go_wp2_with fail
  refine (ispart_any a b c h1 h2 h3 _).mono ?_
  rintro x w1 ⟨rfl, rfl⟩
  go_wp2
  go_quiet (fail)
  go_wp2_with fail
  rw [HE1.out, HCO.out, HMB.out]
  obtain ⟨o1, o2⟩ := (HRAW.out.drewN nq).setCode ((d.code + 4294967296 - R * a % 4294967296) % 4294967296)
  obtain ⟨u1, u2⟩ := o1.setSize (R * b)
  have U2 := Lib.hid (o2.trans u2).from_drewN
  refine (decturn u1 HRB.out).mono ?_
  clear o1 o2 u1 u2 m0 m1 m2 m3
  rintro x w3 ⟨rfl, hst3, hen3⟩
  have HST3 := Lib.hid hst3
  have HEN3 := Lib.hid hen3
  clear hst3 hen3
  go_wp2
  first | go_end0 | (simp only [Exit.inBlock, Exit.then]; refine bodyPost_ret (results_none rfl _ _ _) rfl ?_) | refine bodyPost_ret (results_none rfl _ _ _) rfl ?_
  exact ⟨rfl, U2.out.trans HST3.out, by rw [HGE.out]; exact HEN3.out, HF.out⟩
theorem nil_where (t : Int) (w : World) : Calls Try.prog 68 #[.pointer none, .int .u32 t] w fun x w' => x = .returned (.int .u32 0) ∧ w = w' := by
  go_enter Try.func68, Try.ntmps68
  go_wp2
  go_ret
  exact ⟨rfl, rfl⟩
theorem nil_take (a b : Int) (w : World) : Calls Try.prog 69 #[.pointer none, .int .u32 a, .int .u32 b] w fun x w' => x = .returned (.tuple #[]) ∧ w = w' := by
  go_enter Try.func69, Try.ntmps69
  go_wp2
  first | go_end0 | (simp only [Exit.inBlock, Exit.then]; refine bodyPost_ret (results_none rfl _ _ _) rfl ?_) | refine bodyPost_ret (results_none rfl _ _ _) rfl ?_
  exact ⟨rfl, rfl⟩
theorem nil_bad (w : World) : Calls Try.prog 33 #[.pointer none] w fun x w' => x = .returned (.bool true) ∧ w = w' := by
  go_enter Try.func33, Try.ntmps33
  go_wp2
  go_ret
  exact ⟨rfl, rfl⟩
theorem nil_done (w : World) : Calls Try.prog 32 #[.pointer none] w fun x w' => x = .returned (.bool false) ∧ ∃ n, w' = w.drewN n := by
  go_enter Try.func32, Try.ntmps32
  go_wp2
  go_quiet (fail)
  go_wp2
  go_ret
  exact ⟨rfl, _, rfl⟩
end Go.Proofs.Ythejbnodalnnpaa.Rc
