/-
  Layer 24: sums under a key, as lists of bytes; the program's functions.
-/
import Derived.Test.YtoabeohfbikpcaaDoorShaDone
import Derived.Test.YtoabeohfbikpcaaDoorRepeat
set_option linter.unusedVariables false
set_option linter.unusedSimpArgs false
namespace Go.Proofs.YtoabeohfbikpcaaDoor.Sh
open Go.RowKit
open Rc
/-- A key as it counts. -/
def keyL (k : List UInt8) : List UInt8 := (if k.length > 64 then shaL k else k) ++ List.replicate (64 - (if k.length > 64 then shaL k else k).length) 0
def xorL (k : List UInt8) (b : UInt8) : List UInt8 := k.map fun x => x ^^^ b
def hmacL (k s : List UInt8) : List UInt8 := shaL (xorL (keyL k) 92 ++ shaL (xorL (keyL k) 54 ++ s))
theorem keyL_length (k : List UInt8) : (keyL k).length = 64 := by
  unfold keyL
  rw [List.length_append, List.length_replicate]
  split
  · rw [shaL_length]
  · omega
theorem xorL_length (k : List UInt8) (b : UInt8) : (xorL k b).length = k.length := by simp [xorL]
theorem repeat_zero (n : Nat) : Lib.repeatL [0] n = List.replicate n 0 := by
  have := Lib.repeatL_replicate 0 1 n
  rw [Nat.mul_one] at this
  exact this
theorem key_ends : (hmacL [107, 101, 121] [84, 104, 101, 32, 113, 117, 105, 99, 107, 32, 98, 114, 111, 119, 110, 32, 102, 111, 120, 32, 106, 117, 109, 112, 115, 32, 111, 118, 101, 114, 32, 116, 104, 101, 32, 108, 97, 122, 121, 32, 100, 111, 103]).take 4 = [247, 188, 131, 244] := by kernel_rfl
set_option maxRecDepth 100000 in
set_option maxHeartbeats 4000000 in
theorem filled_any (k : List UInt8) (hk : k.length ≤ 500000) (w : World) (hks : Ks w) (hz : 0 < w.heap.size) :
    Calls Tryd.prog 22 #[.string (tx k)] w fun z w' => z = .returned (.string (tx (keyL k))) ∧ Below w.heap.size w w' := by
  have HSU := Lib.hid (sum_any k (by omega) w hks hz)
  have HRP := Lib.hid (fun (n : Nat) (hn : n ≤ 64) (V : World) => show Calls Tryd.prog 27 #[.string ⟨#[0]⟩, .int .i64 (n : Int)] V fun e w' => e = .returned (.string (tx (List.replicate n 0))) ∧ Below V.heap.size V w' from by
    have := Tryd.strings_Repeat ⟨#[0]⟩ n V (by omega) (by show 1 * n ≤ _; omega)
    rw [show (⟨#[0]⟩ : ByteArray).data.toList = [0] from rfl, repeat_zero] at this
    exact this)
  have hsz := tx_size k
  have HKL := Lib.hid (show keyL k = (if k.length > 64 then shaL k else k) ++ List.replicate (64 - (if k.length > 64 then shaL k else k).length) 0 from rfl)
  have hss : (tx (shaL k)).size = 32 := tx_size _
  have HA := Lib.hid (fun n => tx_append (shaL k) (List.replicate n 0))
  have HB := Lib.hid (fun n => tx_append k (List.replicate n 0))
  have HRS := Lib.hid (fun n => show (tx (List.replicate n 0)).size = n by rw [tx_size, List.length_replicate])
  clear hks hz
  by_cases h64 : k.length > 64
  · as_aux_lemma =>
    rw [if_pos h64, shaL_length] at HKL
    have HKX := Lib.hid (show tx (shaL k) ++ tx (List.replicate 32 0) = tx (keyL k) by rw [HA.out, HKL.out])
    have HR2 := Lib.hid (fun (V : World) => show Calls Tryd.prog 27 #[.string ⟨#[0]⟩, .int .i64 32] V fun e w' => e = .returned (.string (tx (List.replicate 32 0))) ∧ Below V.heap.size V w' from HRP.out 32 (by omega) V)
    have hrs := HRS.out 32
    have ht : (64 : Int) < (k.length : Int) := by omega
    clear HKL HA HB HRP HRS
    generalize tx (List.replicate 32 (0 : UInt8)) = Z at *
    generalize tx (shaL k) = X at *
    generalize tx (keyL k) = K at *
    generalize tx k = U at *
    generalize k.length = n at *
    go_enter Tryd.func22, Tryd.ntmps22
    go_wp2_with fail
    refine HSU.out.mono ?_
    rintro z w1 ⟨rfl, hb1⟩
    have HB1 := Lib.hid hb1
    clear hb1
    go_wp2_with fail
    refine (HR2.out _).mono ?_
    rintro z w2 ⟨rfl, hb2⟩
    have HB2 := Lib.hid (HB1.out.trans (hb2.mono HB1.out.size))
    clear hb2
    --@1
    go_wp2_with fail
    go_ret
    exact ⟨by rw [← HKX.out]; rfl, HB2.out⟩
  · as_aux_lemma =>
    rw [if_neg h64] at HKL
    have HKX := Lib.hid (show tx k ++ tx (List.replicate (64 - k.length) 0) = tx (keyL k) by rw [HB.out, HKL.out])
    have HR2 := Lib.hid (fun (V : World) => HRP.out (64 - k.length) (by omega) V)
    have hrs := HRS.out (64 - k.length)
    have ht : ¬ (64 : Int) < (k.length : Int) := by omega
    have hs : (64 : Int) - (k.length : Int) = ((64 - k.length : Nat) : Int) := by omega
    have hsu : k.length ≤ 64 := by omega
    clear HKL HA HB HRP HRS HSU hss
    generalize tx (List.replicate (64 - k.length) (0 : UInt8)) = Z at *
    generalize tx (keyL k) = K at *
    generalize tx k = U at *
    generalize 64 - k.length = m at *
    generalize k.length = n at *
    go_enter Tryd.func22, Tryd.ntmps22
    go_wp2_with fail
    refine (HR2.out _).mono ?_
    rintro z w2 ⟨rfl, hb2⟩
    have HB2 := Lib.hid hb2
    clear hb2
    --@2
    go_wp2_with fail
    go_ret
    exact ⟨by rw [← HKX.out]; rfl, HB2.out⟩
end Go.Proofs.YtoabeohfbikpcaaDoor.Sh
