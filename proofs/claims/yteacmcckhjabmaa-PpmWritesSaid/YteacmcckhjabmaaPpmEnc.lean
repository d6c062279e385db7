/-
  Package ppm: the contract of Encode.
-/
import Derived.Test.YteacmcckhjabmaaPpmPut
set_option linter.unusedVariables false
set_option linter.unusedSimpArgs false
namespace Go.Proofs.Yteacmcckhjabmaa.Pp
open Go.RowKit
open Fq Cx
open Rc (Enc Dec EncAt DecAt Fine)
def nums (t : ByteArray) : List Nat := t.data.toList.map (·.toNat)
theorem nums_len (t : ByteArray) : (nums t).length = t.size := by simp [nums]
theorem nums_lt (t : ByteArray) : ∀ s ∈ nums t, s < 256 := by
  intro s hs
  obtain ⟨x, _, rfl⟩ := List.mem_map.1 hs
  exact x.toNat_lt
theorem nums_take (t : ByteArray) {k : Nat} (hk : k < t.size) : (nums t).take (k + 1) = (nums t).take k ++ [t[k].toNat] := by
  rw [List.take_succ_eq_append_getElem (by rw [nums_len]; exact hk)]
  congr 2
  simp [nums]
  rfl
theorem runP_snoc (z : Rw × Enc) (l : List Nat) (s : Nat) : runP z (l ++ [s]) = stepP (runP z l) s := by simp [runP]
theorem learn_from (r : Rw) : r.rs ≤ 0 → True := fun _ => trivial
theorem step_below {w w' : World} {O' : Paint} {cs : List Nat} (h0 : 0 ∉ cs) (h : Step cs w (fun _ => 0) w' O') : Below w.heap.size w w' := h.below (Nat.le_refl _) (fun k _ hk => h0 hk)
set_option maxRecDepth 100000 in
set_option maxHeartbeats 4000000 in
theorem enc_any (t : ByteArray) (o c : Int) (w : World) (ht : t.size ≤ 10000) :
    Calls Try.prog 12 #[.string t, .int .i64 o, .int .i64 c] w fun x w' => x = .returned (.string ⟨(encV (nums t) o c).toArray⟩) ∧ Below w.heap.size w w' := by
  have HNW := Lib.hid (new_rw o c w (fun _ => 0) 10)
  go_enter Try.func12, Try.ntmps12
  go_wp2_with fail
  refine HNW.out.mono ?_
  rintro x w2 ⟨O2, d, m2, rfl, hs2, h2⟩
  have HS2 := Lib.hid (hs2.nil (cs := 30 :: cols 10))
  have H2 := Lib.hid h2
  have HNE := Lib.hid (Rc.new_enc w2 O2 30)
  clear hs2 h2 HNW
  go_wp2_with fail
  refine HNE.out.mono ?_
  rintro x w3 ⟨ae, rfl, _, O3, hs3, he3⟩
  have HS3 := Lib.hid (HS2.out.trans hs3.nil)
  have H3 := Lib.hid (H2.out.idle hs3)
  have HE3 := Lib.hid he3
  clear hs3 he3 HNE HS2 H2
  go_wp2_with fail
  go_loopw [16] (fun i wr => ∃ (j : Nat) (O1 : Paint) (m1 : CM), j ≤ t.size ∧ i = .int .i64 (j : Int) ∧ Step (30 :: cols 10) w (fun _ => 0) wr O1 ∧ RwAt wr O1 10 d m1 (runP (Rw.new o c, Enc.start) ((nums t).take j)).1 ∧ EncAt wr O1 30 ae (runP (Rw.new o c, Enc.start) ((nums t).take j)).2 ∧ (runP (Rw.new o c, Enc.start) ((nums t).take j)).1.rs ≤ j) (fun i _ => t.size - (intOf i).toNat)
  case atStart => exact ⟨0, O3, m2, Nat.zero_le _, rfl, HS3.out, H3.out, HE3.out, Nat.le_refl _⟩
  case round =>
    obtain ⟨j, O1, m1, hj, rfl, hs1, h1, he1, hrs⟩ := hrel
    clear HS3 H3 HE3
    have hrun := runP_ok ((nums t).take j) (Rw.new o c, Enc.start) (fun s hs => nums_lt t s (List.mem_of_mem_take hs)) (Rw.new_ok o c) Rc.fine_start
    have htn : (runP (Rw.new o c, Enc.start) ((nums t).take j)).2.turns ≤ 60 * j := by
      have h3 := hrun.2.2
      have : ((nums t).take j).length ≤ j := List.length_take_le _ _
      have e0 : (Rw.new o c, Enc.start).2.turns = 0 := rfl
      omega
    clear hrun
    by_cases hlt : j < t.size
    · as_aux_lemma =>
      have hx := UInt8.toNat_lt t[j]
      have e1 : (0 : Int) ≤ (j : Int) := by omega
      have e2 : (j : Int) < (t.size : Int) := by omega
      have e4 : (j : Int).toNat = j := rfl
      have HNX := Lib.hid (show runP (Rw.new o c, Enc.start) ((nums t).take (j + 1)) = stepP (runP (Rw.new o c, Enc.start) ((nums t).take j)) t[j].toNat by rw [nums_take t hlt, runP_snoc])
      generalize runP (Rw.new o c, Enc.start) ((nums t).take j) = z at *
      have HPT := Lib.hid (put_any (h1.idle (Step.refl [] wr O1).drew) (he1.step (Step.refl [] wr O1).drew (by simp)) (s := t[j].toNat) (by simp [cols]) (by omega) (by omega))
      have HLN := Lib.hid (fun (W : World) (O4 : Paint) (k1 : Step [30] wr.drew O1 W O4) => learn_any ((h1.idle (Step.refl [] wr O1).drew).step k1 (by simp [cols])) (s := t[j].toNat) (by omega) (putP z.1 t[j].toNat z.1.pth.length noN z.2).2 (by omega))
      have HRS := Lib.hid (show (stepP z t[j].toNat).1.rs ≤ j + 1 from by have := learn_rs z.1 t[j].toNat (putP z.1 t[j].toNat z.1.pth.length noN z.2).2; show (z.1.learn _ _).rs ≤ _; omega)
      have HST := Lib.hid (fun (W W2 : World) (O4 O5 : Paint) (k1 : Step [30] wr.drew O1 W O4) (k2 : Step (cols 10) W O4 W2 O5) => show Step (30 :: cols 10) w (fun _ => 0) W2 O5 from hs1.trans ((((Step.refl [] wr O1).drew.nil).trans (k1.mono (by simp))).trans (k2.mono (fun c hc => List.mem_cons_of_mem _ hc))))
      clear hs1 h1 he1 htn hx
      go_wp2_with fail
      go_region_held3 (fun W' => True) (trivial) (first | (go_at_call 34; (with_reducible refine HPT.out.mono ?_); rintro z1 w4 ⟨rfl, O4, k1, k2⟩; have HK1 := Lib.hid k1; have HK2 := Lib.hid k2; clear k1 k2) | (go_at_call 33; (with_reducible refine (HLN.out w4 O4 HK1.out).mono ?_); rintro z1 w5 ⟨rfl, O5, m5, k3, k4⟩; have HK3 := Lib.hid k3; have HK4 := Lib.hid k4; clear k3 k4))
      all_goals
        go_wp2_with fail
        go_roundw
        case rel => exact ⟨j + 1, O5, m5, by omega, by go_num, HST.out w4 w5 O4 O5 HK1.out HK3.out, by rw [HNX.out]; exact HK4.out, by rw [HNX.out]; exact HK2.out.step HK3.out (by simp [cols]), by rw [HNX.out]; exact HRS.out⟩
        case measure => simp [intOf]; omega
    · obtain rfl : j = t.size := by omega
      have hal : (nums t).take t.size = nums t := List.take_of_length_le (by rw [nums_len]; exact Nat.le_refl _)
      rw [hal] at h1 he1 htn
      have HEN := Lib.hid (Rc.enc_end he1 (by omega))
      have HB := Lib.hid (step_below (by simp [cols]) hs1)
      have HEV := Lib.hid (show (runP (Rw.new o c, Enc.start) (nums t)).2.bytes = encV (nums t) o c from rfl)
      clear hs1 h1 he1 htn hal hrs
      go_wp2_with fail
      refine HEN.out.mono ?_
      rintro x w5 ⟨rfl, hb⟩
      have HB2 := Lib.hid (HB.out.trans (hb.mono HB.out.size))
      clear hb
      rw [HEV.out]
      go_wp2_with fail
      go_ret
      exact ⟨rfl, HB2.out⟩
end Go.Proofs.Yteacmcckhjabmaa.Pp
