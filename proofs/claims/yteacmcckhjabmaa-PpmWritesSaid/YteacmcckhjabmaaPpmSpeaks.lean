/-
  Package ppm: what was encoded, and is decoded again, as texts; the first lines of the statements of layer 19.
-/
import Derived.Test.YteacmcckhjabmaaPpmDec
set_option linter.unusedVariables false
set_option linter.unusedSimpArgs false
namespace Go.Proofs.Yteacmcckhjabmaa.Pp
open Go.RowKit
open Fq Cx
open Rc (Enc Dec EncAt DecAt Fine)
def encS (t : ByteArray) (o c : Int) : ByteArray := ⟨(encV (nums t) o c).toArray⟩
theorem encV_length (t : ByteArray) (o c : Int) : 5 ≤ (encV (nums t) o c).length ∧ (encV (nums t) o c).length ≤ 60 * t.size + 5 := by
  obtain ⟨k1, k2, k3⟩ := runP_ok (nums t) (Rw.new o c, Enc.start) (nums_lt t) (Rw.new_ok o c) Rc.fine_start
  rw [nums_len] at k3
  have e0 : (Rw.new o c, Enc.start).2.turns = 0 := rfl
  unfold encV
  rw [bytes_start, List.length_cons, Rc.be_length]
  omega
theorem encS_list (t : ByteArray) (o c : Int) : (encS t o c).data.toList = encV (nums t) o c := by simp [encS]
theorem encS_size (t : ByteArray) (o c : Int) : 5 ≤ (encS t o c).size ∧ (encS t o c).size ≤ 60 * t.size + 5 := by
  have := encV_length t o c
  have e : (encS t o c).size = (encV (nums t) o c).length := by simp [encS, ByteArray.size]
  omega
theorem strV_nums (t : ByteArray) : strV (some (nums t)) = t := by
  unfold strV nums
  dsimp only
  rw [List.map_map]
  have e : t.data.toList.map (UInt8.ofNat ∘ (·.toNat)) = t.data.toList := by
    rw [List.map_congr_left (g := id) (fun x _ => by simp)]
    simp
  rw [e]
theorem back_text (t : ByteArray) (o c : Int) : decV (encS t o c).data.toList o c t.size = some (nums t) := by
  have := decV_back (nums t) (nums_lt t) o c []
  rw [nums_len, if_pos rfl, List.append_nil] at this
  rw [encS_list]
  exact this
theorem back_more (t : ByteArray) (o c : Int) : decV (encS t o c ++ ⟨#[0]⟩).data.toList o c t.size = none := by
  have := decV_back (nums t) (nums_lt t) o c [0]
  rw [nums_len, if_neg (by simp)] at this
  rw [show (encS t o c ++ ⟨#[0]⟩).data.toList = (encS t o c).data.toList ++ [0] by simp, encS_list]
  exact this
theorem text_less (B : ByteArray) : (B.extract 0 (B.size - 1)).data.toList = B.data.toList.take (B.data.toList.length - 1) := by
  rw [ByteArray.data_extract, Array.toList_extract, List.extract_eq_take_drop, List.drop_zero]
  rfl
theorem back_less (t : ByteArray) (o c : Int) : decV ((encS t o c).extract 0 ((encS t o c).size - 1)).data.toList o c t.size = none := by
  have := decV_less (nums t) (nums_lt t) o c
  rw [nums_len] at this
  have e : ((encS t o c).extract 0 ((encS t o c).size - 1)).data.toList = (encV (nums t) o c).dropLast := by
    rw [List.dropLast_eq_take, ← encS_list]
    exact text_less _
  rw [e]
  exact this
theorem empty_text : encS ⟨#[]⟩ 2 64 = ⟨#[0, 0, 0, 0, 0]⟩ := by
  have e : encV (nums ⟨#[]⟩) 2 64 = Enc.start.bytes := rfl
  unfold encS
  rw [e, Rc.k_bytes]
theorem encode_any (t : ByteArray) (o c : Int) (w : World) (ht : t.size ≤ 10000) : Calls Try.prog 12 #[.string t, .int .i64 o, .int .i64 c] w fun x w' => x = .returned (.string (encS t o c)) ∧ Below w.heap.size w w' := enc_any t o c w ht
def abra : ByteArray := ⟨#[97, 98, 114, 97, 99, 97, 100, 97, 98, 114, 97]⟩
set_option maxRecDepth 100000 in
set_option maxHeartbeats 1000000 in
theorem speaks19 (w : World) : Calls Try.prog 11 #[] w fun x w' => x = .returned (.bool true) ∧ Below w.heap.size w w' := by
  have HE := Lib.hid (show Calls Try.prog 12 #[.string ⟨#[97, 98, 114, 97, 99, 97, 100, 97, 98, 114, 97]⟩, .int .i64 3, .int .i64 1000] w fun x w' => x = .returned (.string (encS abra 3 1000)) ∧ Below w.heap.size w w' from encode_any abra 3 1000 w (by decide))
  have HD := Lib.hid (fun (W : World) => show Calls Try.prog 30 #[.string (encS abra 3 1000), .int .i64 3, .int .i64 1000, .int .i64 11] W (DecTo W ⟨#[97, 98, 114, 97, 99, 97, 100, 97, 98, 114, 97]⟩ 0) from by
    have := dec_in (encS abra 3 1000) 3 1000 11 W (by have := (encS_size abra 3 1000).2; have e : abra.size = 11 := rfl; omega) (by omega)
    rw [show (11 : Nat) = abra.size from rfl, back_text, strV_nums] at this
    exact this)
  have HD2 := Lib.hid (fun (W : World) => dec_param ⟨#[]⟩ 3 1000 (-1) W (.inl (by omega)))
  have HE2 := Lib.hid (fun (W : World) => show Calls Try.prog 12 #[.string ⟨#[]⟩, .int .i64 2, .int .i64 64] W fun x w' => x = .returned (.string ⟨#[0, 0, 0, 0, 0]⟩) ∧ Below W.heap.size W w' from by
    have := encode_any ⟨#[]⟩ 2 64 W (by decide)
    rw [empty_text] at this
    exact this)
  generalize encS abra 3 1000 = B at *
  go_enter Try.func11, Try.ntmps11
  go_wp2_with fail
  refine HE.out.mono ?_
  rintro x w1 ⟨rfl, hb1⟩
  have HB1 := Lib.hid hb1
  clear hb1
  go_wp2_with fail
  refine (HD.out w1).mono ?_
  rintro x w2 ⟨rfl, hb2⟩
  have HB2 := Lib.hid (HB1.out.trans (hb2.mono HB1.out.size))
  clear hb2
  go_wp2_with fail
  refine (HD2.out w2).mono ?_
  rintro x w3 ⟨rfl, hb3⟩
  have HB3 := Lib.hid (HB2.out.trans (hb3.mono HB2.out.size))
  clear hb3
  go_wp2_with fail
  refine (HE2.out w3).mono ?_
  rintro x w4 ⟨rfl, hb4⟩
  have HB4 := Lib.hid (HB3.out.trans (hb4.mono HB3.out.size))
  clear hb4
  go_wp2_with fail
  go_ret
  exact ⟨rfl, HB4.out⟩
end Go.Proofs.Yteacmcckhjabmaa.Pp
