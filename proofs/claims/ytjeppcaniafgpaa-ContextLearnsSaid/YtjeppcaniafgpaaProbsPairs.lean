/-
  A list of pairs of bytes that came in.
-/
import Derived.Test.YtjeppcaniafgpaaBase
namespace Go.Proofs.Ytjeppcaniafgpaa.Rc
open Go.RowKit
/-- A list of pairs of bytes that came in. -/
def IsPairs (w : World) (a : Option Addr) (len : Nat) : Prop :=
  len ≤ maxLen ∧ (len = 0 ∨ ∃ b off, a = some ⟨b, off, none⟩ ∧ b < w.heap.size ∧ ∀ i, i < len → ∃ x y : Nat, w.cell? ⟨b, off + i * 2, none⟩ = some (.int .u8 (x : Int)) ∧ w.cell? ⟨b, off + i * 2 + 1, none⟩ = some (.int .u8 (y : Int)) ∧ x < 256 ∧ y < 256)
end Go.Proofs.Ytjeppcaniafgpaa.Rc
