/-
  The walk of the statement PpmBack: for every text, order and cells it returns true, and writes nothing that was there.
-/
import Derived.Test.YtjeppcaniafgpaaPpmSpeaks
set_option linter.unusedVariables false
set_option linter.unusedSimpArgs false
namespace Go.Proofs.Ytjeppcaniafgpaa.Pp
open Go.RowKit
open Fq Cx
set_option maxRecDepth 100000 in
set_option maxHeartbeats 1000000 in
theorem back_walk (t : ByteArray) (o c : Int) (w : World) (ht : t.size ≤ maxLen) :
    Calls Try.prog 7 #[.string t, .int .i64 o, .int .i64 c] w fun x w' => x = .returned (.bool true) ∧ Below w.heap.size w w' := by
  unfold maxLen at ht
  have HSP := Lib.hid (speaks19 w)
  go_enter Try.func7, Try.ntmps7
  go_wp2_with fail
  refine HSP.out.mono ?_
  rintro x w1 ⟨rfl, hb1⟩
  have HB1 := Lib.hid hb1
  clear hb1 HSP
  go_upto_region 4 with (fail)
  have hmm : (if (500 : Int) < (t.size : Int) then (500 : Int) else (t.size : Int)) = min (t.size : Int) 500 := by split <;> omega
  try rw [hmm]
  clear hmm
  have hus : (t.extract 0 (min (t.size : Int) 500).toNat).size ≤ 500 := by simp; omega
  generalize min (t.size : Int) 500 = mn at *
  generalize t.extract 0 mn.toNat = s at *
  obtain ⟨z1, z2⟩ := encS_size s o c
  have HE := Lib.hid (encode_any s o c w1 (by omega))
  have HD1 := Lib.hid (fun (W : World) => show Calls Try.prog 32 #[.string (encS s o c), .int .i64 o, .int .i64 c, .int .i64 (s.size : Int)] W (DecTo W s 0) from by
    have := dec_in (encS s o c) o c s.size W (by omega) (by omega)
    rw [back_text, strV_nums] at this
    exact this)
  have z3 : (⟨#[0]⟩ : ByteArray).size = 1 := rfl
  have hm1 : (encS s o c ++ ⟨#[0]⟩).size ≤ 100000 := by rw [ByteArray.size_append, z3]; omega
  clear z3
  have HD2 := Lib.hid (fun (W : World) => show Calls Try.prog 32 #[.string (encS s o c ++ ⟨#[0]⟩), .int .i64 o, .int .i64 c, .int .i64 (s.size : Int)] W (DecTo W ⟨#[]⟩ 6) from by
    have := dec_in (encS s o c ++ ⟨#[0]⟩) o c s.size W (by omega) (by omega)
    rw [back_more] at this
    exact this)
  have HD3 := Lib.hid (fun (W : World) => show Calls Try.prog 32 #[.string ((encS s o c).extract 0 ((encS s o c).size - 1)), .int .i64 o, .int .i64 c, .int .i64 (s.size : Int)] W (DecTo W ⟨#[]⟩ 6) from by
    have := dec_in ((encS s o c).extract 0 ((encS s o c).size - 1)) o c s.size W (by simp; omega) (by omega)
    rw [back_less] at this
    exact this)
  generalize encS s o c = B at *
  have g1 : ¬ (B.size : Int) < 5 := by omega
  have g2 : decide ((B.size : Int) < 5) = false := decide_eq_false g1
  have w1' : wrap64 ((B.size : Int) - 1) = ((B.size - 1 : Nat) : Int) := by unfold wrap64; omega
  have w2' : IntKind.i64.wrap ((B.size : Int) - 1) = ((B.size - 1 : Nat) : Int) := by rw [IntKind.wrap_i64]; omega
  have e1 : (0 : Int) ≤ ((B.size - 1 : Nat) : Int) := by omega
  have e2 : ((B.size - 1 : Nat) : Int) ≤ (B.size : Int) := by omega
  have e3 : ((B.size - 1 : Nat) : Int).toNat = B.size - 1 := rfl
  go_wp2_with fail
  refine HE.out.mono ?_
  rintro x w2 ⟨rfl, hb2⟩
  have HB2 := Lib.hid (HB1.out.trans (hb2.mono HB1.out.size))
  clear hb2 HE
  go_wp2_with fail
  refine (HD1.out w2).mono ?_
  rintro x w3 ⟨rfl, hb3⟩
  have HB3 := Lib.hid (HB2.out.trans (hb3.mono HB2.out.size))
  clear hb3
  go_wp2_with fail
  refine (HD2.out w3).mono ?_
  rintro x w4 ⟨rfl, hb4⟩
  have HB4 := Lib.hid (HB3.out.trans (hb4.mono HB3.out.size))
  clear hb4
  go_wp2_with fail
  refine (HD3.out w4).mono ?_
  rintro x w5 ⟨rfl, hb5⟩
  have HB5 := Lib.hid (HB4.out.trans (hb5.mono HB4.out.size))
  clear hb5
  go_wp2_with fail
  go_ret
  exact ⟨rfl, HB5.out⟩
end Go.Proofs.Ytjeppcaniafgpaa.Pp
