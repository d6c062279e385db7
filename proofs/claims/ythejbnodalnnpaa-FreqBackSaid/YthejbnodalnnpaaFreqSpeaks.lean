/-
  Layer 5's statements: their first lines (speaks) return true, and write nothing that was there.
-/
import Derived.Test.YthejbnodalnnpaaFreqPut
namespace Go.Proofs.Ythejbnodalnnpaa.Fq
open Go.RowKit
open Rc (Enc Dec EncAt DecAt)
def N0 : Nat → Bool := fun _ => false
def l3 : List (Nat × Nat) := addT (addT (addT [] 97) 98) 97
def E1 : Enc := (putE Enc.start l3 N0 98).1
def E2 : Enc := (putE E1 l3 N0 99).1
def D0 : Dec := Dec.read E2.bytes
def D1 : Dec := (getD D0 l3 N0).1
def D2 : Dec := (getD D1 l3 N0).1
theorem k_speaks : (putE Enc.start l3 N0 98).2 = true ∧ (putE E1 l3 N0 99).2 = false ∧ (getD D0 l3 N0).2 = (98, true) ∧ (getD D1 l3 N0).2 = (0, false) ∧ hasB l3 97 = true ∧ D2.done = true ∧ E2.turns ≤ 1000 ∧ E1.turns ≤ 1000 ∧ allOf N0 l3 ≤ 65536 ∧ l3.length = 2 := by decide +kernel
theorem notNil (w : World) : NotAt w (.pointer none) N0 := .inl ⟨rfl, fun _ => rfl⟩
theorem tab_l3 : Tab 120 l3 := tab_add (tab_add (tab_add (fun x hx => by cases hx) (by omega)) (by omega)) (by omega)
theorem tab_wide {b c : Nat} {l : List (Nat × Nat)} (h : Tab b l) (hbc : b ≤ c) : Tab c l := fun x hx => by have := h x hx; omega
set_option maxHeartbeats 2000000 in
theorem speaks5 (w : World) : Calls Try.prog 13 #[] w fun x w' => x = .returned (.bool true) ∧ Below w.heap.size w w' := by
  have HRUN := Lib.hid (Run.start w)
  obtain ⟨k1, k2, k3, k4, k5, k6, k7, k8, k9, k10⟩ := k_speaks
  have K1 := Lib.hid k1
  have K2 := Lib.hid k2
  have K3 := Lib.hid k3
  have K4 := Lib.hid k4
  have K5 := Lib.hid k5
  have K6 := Lib.hid k6
  have K7 := Lib.hid k7
  have K8 := Lib.hid k8
  have K9 := Lib.hid k9
  have K10 := Lib.hid k10
  clear k1 k2 k3 k4 k5 k6 k7 k8 k9 k10
  go_enter Try.func13, Try.ntmps13
  go_wp2_with fail
  refine (new_tab w (fun _ => 0) 1).mono ?_
  rintro x w1 ⟨a, rfl, O1, hs1, ht1⟩
  have HR1 := Lib.hid (HRUN.out.step hs1 (by simp))
  have HT1 := Lib.hid ht1
  clear hs1 ht1 HRUN
  go_wp2_with fail
  refine (add_any HT1.out (fun x hx => by cases hx) (by simp) 97 (by omega)).mono ?_
  rintro x w2 ⟨rfl, O2, v2, hs2, ht2⟩
  have HR2 := Lib.hid (HR1.out.step hs2 (by simp))
  have HT2 := Lib.hid ht2
  clear hs2 ht2 HR1 HT1
  go_wp2_with fail
  refine (add_any HT2.out (tab_add (fun x hx => by cases hx) (by omega)) (by decide +kernel) 98 (by omega)).mono ?_
  rintro x w3 ⟨rfl, O3, v3, hs3, ht3⟩
  have HR3 := Lib.hid (HR2.out.step hs3 (by simp))
  have HT3 := Lib.hid ht3
  clear hs3 ht3 HR2 HT2
  go_wp2_with fail
  refine (add_any HT3.out (tab_add (tab_add (fun x hx => by cases hx) (by omega)) (by omega)) (by decide +kernel) 97 (by omega)).mono ?_
  rintro x w4 ⟨rfl, O4, v4, hs4, ht4⟩
  have HR4 := Lib.hid (HR3.out.step hs4 (by simp))
  have HT4 := Lib.hid (show TabAt w4 O4 1 a v4 l3 from ht4)
  clear hs4 ht4 HR3 HT3
  go_wp2_with fail
  refine (Rc.new_enc w4 O4 2).mono ?_
  rintro x w5 ⟨ae, rfl, _, O5, hs5, he5⟩
  have HR5 := Lib.hid (HR4.out.step hs5 (by simp))
  have HT5 := Lib.hid (HT4.out.step hs5 (by simp))
  have HE5 := Lib.hid he5
  clear hs5 he5 HR4 HT4
  go_wp2_with fail
  refine (put_any HT5.out tab_l3 (by rw [K10.out]; omega) (notNil _) K9.out HE5.out (by decide) 98 (by omega)).mono ?_
  rintro x w6 ⟨hx, O6, hs6, he6⟩
  rw [K1.out] at hx
  subst hx
  have HR6 := Lib.hid (HR5.out.step hs6 (by simp))
  have HT6 := Lib.hid (HT5.out.step hs6 (by simp))
  have HE6 := Lib.hid (show EncAt w6 O6 2 ae E1 from he6)
  clear hs6 he6 HR5 HT5 HE5
  go_wp2_with fail
  refine (put_any HT6.out tab_l3 (by rw [K10.out]; omega) (notNil _) K9.out HE6.out (by have := K8.out; omega) 99 (by omega)).mono ?_
  rintro x w7 ⟨hx, O7, hs7, he7⟩
  rw [K2.out] at hx
  subst hx
  have HR7 := Lib.hid (HR6.out.step hs7 (by simp))
  have HT7 := Lib.hid (HT6.out.step hs7 (by simp))
  have HE7 := Lib.hid (show EncAt w7 O7 2 ae E2 from he7)
  clear hs7 he7 HR6 HT6 HE6
  go_wp2_with fail
  refine (Rc.enc_end HE7.out (by have := K7.out; omega)).mono ?_
  rintro x w8 ⟨rfl, hb8⟩
  have hs8 := Step.of_below_same hb8 O7
  have HR8 := Lib.hid (HR7.out.step hs8 (by simp))
  have HT8 := Lib.hid (HT7.out.step hs8 (by simp))
  clear hb8 hs8 HR7 HT7 HE7
  go_wp2_with fail
  refine (Rc.newdec ⟨E2.bytes.toArray⟩ (by decide +kernel) _ O7 3).mono ?_
  rintro x w9 ⟨rfl, O9, hs9, hd9⟩
  generalize w8.heap.size = ad at *
  have HR9 := Lib.hid (HR8.out.step hs9 (by simp))
  have HT9 := Lib.hid (HT8.out.step hs9 (by simp))
  have HD9 := Lib.hid (show DecAt w9 O9 3 ad D0 0 from hd9)
  clear hs9 hd9 HR8 HT8
  go_wp2_with fail
  refine (get_any HT9.out tab_l3 (by rw [K10.out]; omega) (notNil _) K9.out HD9.out (by decide) (fun _ _ => notNil _)).mono ?_
  rintro x w10 ⟨hx, hs10, hd10⟩
  rw [K3.out] at hx
  subst hx
  have HR10 := Lib.hid (HR9.out.step hs10 (by simp))
  have HT10 := Lib.hid (HT9.out.step hs10 (by simp))
  have HD10 := Lib.hid (show DecAt w10 O9 3 ad D1 _ from hd10)
  clear hs10 hd10 HR9 HT9 HD9
  go_wp2_with fail
  refine (get_any HT10.out tab_l3 (by rw [K10.out]; omega) (notNil _) K9.out HD10.out (by decide) (fun _ _ => notNil _)).mono ?_
  rintro x w11 ⟨hx, hs11, hd11⟩
  rw [K4.out] at hx
  subst hx
  have HR11 := Lib.hid (HR10.out.step hs11 (by simp))
  have HT11 := Lib.hid (HT10.out.step hs11 (by simp))
  have HD11 := Lib.hid (show DecAt w11 O9 3 ad D2 _ from hd11)
  clear hs11 hd11 HR10 HT10 HD10
  go_wp2_with fail
  refine (has_any HT11.out (tab_wide tab_l3 (by omega)) 97 (by omega)).mono ?_
  rw [K5.out]
  rintro x w12 ⟨rfl, hb12⟩
  have hs12 := Step.of_below_same hb12 O9
  have HR12 := Lib.hid (HR11.out.step hs12 (by simp))
  have HD12 := Lib.hid (HD11.out.step hs12 (by simp))
  clear hb12 hs12 HR11 HD11
  go_wp2_with fail
  refine (Rc.dec_done HD12.out).mono ?_
  rw [K6.out]
  rintro x w13 ⟨rfl, n, hn⟩
  have hs13 : Step [] w12 O9 w13 O9 := by rw [hn]; exact (Step.refl _ _ _).drewN n
  have HR13 := Lib.hid (HR12.out.step hs13 (by simp))
  clear hs13 hn HR12 HD12
  go_wp2
  go_ret
  exact ⟨rfl, HR13.out.below⟩
end Go.Proofs.Ythejbnodalnnpaa.Fq
