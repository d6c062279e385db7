/-
  Contracts of crc.Bytes and of the first lines of the statements of layer 1 (a known sum).
-/
import Derived.Test.YtbkipgbhhjfjfaaCrcWalks
import Derived.Laws.IdiomStrings
import Derived.Deep.QuietTactic
import Derived.BigQuiet
import Derived.Below
namespace Go.Proofs.Ytbkipgbhhjfjfaa.Crc
open Go.RowKit
/-- A contract that names the old world first, told the other way round. -/
theorem still {P : Program} {f : FuncId} {args : Array Value} {W : World} {v : Value} (h : Calls P f args W fun e w' => e = .returned v ∧ W = w') : Calls P f args W fun e w' => e = .returned v ∧ w' = W :=
  h.mono fun _ _ hh => ⟨hh.1, hh.2.symm⟩
def four (z : Nat) : ByteArray := ⟨#[UInt8.ofNat z, UInt8.ofNat (z / 256), UInt8.ofNat (z / 65536), UInt8.ofNat (z / 16777216)]⟩
theorem conv4 (w : World) (n0 n1 n2 n3 : Int) (b0 b1 b2 b3 : UInt8) (h0 : n0 = b0.toNat) (h1 : n1 = b1.toNat) (h2 : n2 = b2.toNat) (h3 : n3 = b3.toNat) :
    (convert 29 9 (.slice (some ⟨w.heap.size, 0, none⟩) 4 4)).run Try.prog (w.alloc (.cells #[.int .u8 n0, .int .u8 n1, .int .u8 n2, .int .u8 n3] 44)) = .ok (.string ⟨#[b0, b1, b2, b3]⟩) (w.alloc (.cells #[.int .u8 n0, .int .u8 n1, .int .u8 n2, .int .u8 n3] 44)) := by
  subst h0 h1 h2 h3
  exact run_convert_bytes_back _ 29 9 5 ⟨w.heap.size, 0, none⟩ 4 [b0, b1, b2, b3] Try.underlying29 Try.underlying5 Try.underlying9 (fun j hj => by
    match j, hj with
    | 0, _ => simp [Addr.add]
    | 1, _ => simp [Addr.add]
    | 2, _ => simp [Addr.add]
    | 3, _ => simp [Addr.add])
set_option maxHeartbeats 1000000 in
theorem bytes_any (z : Nat) (w : World) (hz : z < 4294967296) :
    Calls Try.prog 9 #[.int .u32 (z : Int)] w fun e w' => e = .returned (.string (four z)) ∧ Below w.heap.size w w' := by
  have hcv := conv4 w ((z : Int) % 256) ((z : Int) / 256 % 256) ((z : Int) / 65536 % 256) ((z : Int) / 16777216) (UInt8.ofNat z) (UInt8.ofNat (z / 256)) (UInt8.ofNat (z / 65536)) (UInt8.ofNat (z / 16777216)) (by simp) (by simp) (by simp) (by simp; omega)
  go_enter Try.func9, Try.ntmps9
  go_wp2
  refine wp_loop_rounds 5 ?_
  rw [rounds_succ]
  go_wp2
  rw [rounds_succ]
  go_wp2
  rw [rounds_succ]
  go_wp2
  rw [rounds_succ]
  go_wp2
  rw [rounds_succ]
  go_wp2
  go_ret
  exact ⟨rfl, (Below.refl _ _).alloc (Nat.le_refl _) _⟩
theorem known : sum [49, 50, 51, 52, 53, 54, 55, 56, 57] = 3421780262 := by decide +kernel
set_option maxHeartbeats 1000000 in
theorem speaks_any (w : World) :
    Calls Try.prog 7 #[] w fun e w' => e = .returned (.bool true) ∧ Below w.heap.size w w' := by
  go_enter Try.func7, Try.ntmps7
  go_wp2_with fail
  refine (sum_any _ _ (by decide +kernel)).mono ?_
  rintro e w' ⟨rfl, rfl⟩
  rw [show sum (ByteArray.data { data := #[49, 50, 51, 52, 53, 54, 55, 56, 57] }).toList = 3421780262 from known]
  go_wp2_with fail
  refine (bytes_any 16909060 _ (by omega)).mono ?_
  rintro e w' ⟨rfl, hb⟩
  rw [show four 16909060 = ⟨#[4, 3, 2, 1]⟩ from by decide +kernel]
  go_wp2
  go_ret
  exact ⟨rfl, hb⟩
end Go.Proofs.Ytbkipgbhhjfjfaa.Crc
