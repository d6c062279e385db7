/-
  Layer 4's statements: their first lines (speaks) return true.
-/
import Derived.Test.YtjfoolhgjnnhgaaProbsSpeaks
namespace Go.Proofs.Ytjfoolhgjnnhgaa.Rc
open Go.RowKit
def tr0 (n : Nat) : Tr := ⟨Enc.start, List.replicate n 1024, 1⟩
def td0 (d : Dec) (n : Nat) : Td := ⟨d, List.replicate n 1024, 1, 0⟩
theorem tr0_ok (n : Nat) : (tr0 (2 ^ n)).Ok (2 ^ n) 0 := ⟨fine_start, probs_new _, by simp [tr0], by simp [tr0]⟩
theorem td0_ok {d : Dec} (h : FineD d) (n : Nat) : (td0 d (2 ^ n)).Ok (2 ^ n) 0 := ⟨h, probs_new _, by simp [td0], by simp [td0], by simp [td0]⟩
def spk : Tr := putN false 3 5 (tr0 8) 3
def spg : Td := getN false (td0 (Dec.read spk.e.bytes) 8) 3
theorem spk_l : spk.l.getD 1 0 = 992 ∧ spk.l.getD 3 0 = 1056 ∧ spk.l.getD 6 0 = 992 ∧ spk.l.length = 8 ∧ spk.e.turns ≤ 10 := by decide +kernel
theorem spg_l : spg.v = 5 ∧ spg.l.getD 6 0 = 992 ∧ spg.l.length = 8 := by decide +kernel
set_option maxRecDepth 100000 in
set_option maxHeartbeats 2000000 in
theorem speaks4 (w : World) : Calls Try.prog 11 #[] w fun x w' => x = .returned (.bool true) ∧ Below w.heap.size w w' := by
  have HRUN := Lib.hid (Run.start w)
  go_enter Try.func11, Try.ntmps11
  go_wp2_with fail
  refine (new_at 3 3 (by omega) (.inl rfl) w (fun _ => 0) 2).mono ?_
  rintro y w1 ⟨rfl, O1, hs1, ht1⟩
  have HR1 := Lib.hid (HRUN.out.step hs1 (by simp))
  have HT1 := Lib.hid ht1
  generalize w.heap.size = tb at ht1 HT1 ⊢
  clear hs1 ht1 HRUN
  rw [show (2 : Nat) ^ 3 = 8 from rfl] at HT1 ⊢
  go_wp2_with fail
  refine (new_at 3 3 (by omega) (.inl rfl) w1 O1 3).mono ?_
  rintro y w2 ⟨rfl, O2, hs2, ht2⟩
  have HR2 := Lib.hid (HR1.out.step hs2 (by simp))
  have HT2 := Lib.hid (HT1.out.step hs2 (by simp))
  have HU2 := Lib.hid ht2
  generalize w1.heap.size = ub at ht2 HU2 ⊢
  clear hs2 ht2 HR1 HT1
  rw [show (2 : Nat) ^ 3 = 8 from rfl] at HU2 ⊢
  go_wp2_with fail
  refine (new_enc w2 O2 1).mono ?_
  rintro y w3 ⟨a, rfl, ha, O3, hs3, he3⟩
  have HR3 := Lib.hid (HR2.out.step hs3 (by simp))
  have HT3 := Lib.hid (HT2.out.step hs3 (by simp))
  have HU3 := Lib.hid (HU2.out.step hs3 (by simp))
  have HE3 := Lib.hid he3
  clear hs3 he3 HR2 HT2 HU2 ha
  go_wp2_with fail
  refine (tree_put (s := tr0 8) (n := 3) HE3.out HT3.out (by decide) (tr0_ok 3) rfl (by omega) (by decide) 5 (by decide)).mono ?_
  rintro y w4 ⟨rfl, O4, hs4, he4, ht4⟩
  have HR4 := Lib.hid (HR3.out.step hs4 (by simp))
  have HU4 := Lib.hid (HU3.out.step hs4 (by simp))
  have HE4 := Lib.hid (show EncAt w4 O4 1 a spk.e from he4)
  have HT4 := Lib.hid (show TreeAt w4 O4 2 _ spk.l from ht4)
  clear hs4 he4 ht4 HR3 HU3 HE3 HT3
  have hspk := spk_l
  have hspg := spg_l
  have HSPG := Lib.hid (show getN false (td0 (Dec.read spk.e.bytes) 8) 3 = spg from rfl)
  generalize spg = G at *
  generalize spk = S at *
  obtain ⟨k1, k2, k3, k4, k5⟩ := hspk
  have K1 := Lib.hid k1
  have K2 := Lib.hid k2
  have K3 := Lib.hid k3
  have K4 := Lib.hid k4
  have HG := Lib.hid hspg
  clear k1 k2 k3 k4 hspg
  go_wp2_with fail
  refine (enc_end HE4.out (by omega)).mono ?_
  rintro y w5 ⟨rfl, hb5⟩
  have hs5 := Step.of_below_same hb5 O4
  have HR5 := Lib.hid (HR4.out.step hs5 (by simp))
  have HU5 := Lib.hid (HU4.out.step hs5 (by simp))
  have HT5 := Lib.hid (HT4.out.step hs5 (by simp))
  clear hs5 hb5 HR4 HU4 HT4 HE4
  go_wp2_with fail
  refine (newdec ⟨S.e.bytes.toArray⟩ (by show S.e.bytes.toArray.size ≤ _; simp [Enc.bytes, be_length]; omega) w5 O4 4).mono ?_
  rintro y w6 ⟨rfl, O6, hs6, hd6⟩
  have HR6 := Lib.hid (HR5.out.step hs6 (by simp))
  have HU6 := Lib.hid (HU5.out.step hs6 (by simp))
  have HT6 := Lib.hid (HT5.out.step hs6 (by simp))
  have HD6 := Lib.hid (show DecAt w6 O6 4 w5.heap.size (Dec.read S.e.bytes) 0 from hd6)
  generalize w5.heap.size = D at *
  clear hs6 hd6 HR5 HU5 HT5
  go_wp2_with fail
  refine (tree_get (s := td0 (Dec.read S.e.bytes) 8) (n := 3) HD6.out HU6.out (by decide) (td0_ok HD6.out.2 3) rfl (by omega)).mono ?_
  rw [HSPG.out]
  rintro y w7 ⟨rfl, hs7, he7, ht7⟩
  rw [HG.out.1]
  have HR7 := Lib.hid (HR6.out.step hs7 (by simp))
  have ht8 := HT6.out.step hs7 (by simp)
  have c1 := ht8.cellAt (j := 1) (by have := K4.out; omega)
  have c3 := ht8.cellAt (j := 3) (by have := K4.out; omega)
  have c6 := ht8.cellAt (j := 6) (by have := K4.out; omega)
  have u6 := ht7.cellAt (j := 6) (by have := HG.out.2.2; omega)
  rw [K1.out] at c1
  rw [K2.out] at c3
  rw [K3.out] at c6
  rw [HG.out.2.1] at u6
  clear hs7 he7 ht7 ht8 HR6 HU6 HT6 HD6
  go_wp2_with fail
  go_ret
  exact ⟨rfl, HR7.out.below⟩
end Go.Proofs.Ytjfoolhgjnnhgaa.Rc
