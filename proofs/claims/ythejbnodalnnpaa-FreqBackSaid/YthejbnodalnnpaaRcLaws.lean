/-
  Layer 3's statements: a step that came in, its part; the encoder in lockstep with the reference's.
-/
import Derived.Test.YthejbnodalnnpaaRcSpeaks
import Derived.Deep.DeepCutAuto
import Derived.Deep.CutBlock
namespace Go.Proofs.Ythejbnodalnnpaa.Rc
open Go.RowKit
/-- A step, as it came in. -/
structure St where
  what : Nat
  which : Nat
  v : Nat
  n : Nat
  total : Nat
def St.Ok (x : St) : Prop := x.what < 256 ∧ x.which < 256 ∧ x.v < 4294967296 ∧ x.n < 256 ∧ x.total < 65536
def St.C (x : St) : Nat := 1 + x.total
def St.A (x : St) : Nat := x.v % x.C
def St.B (x : St) : Nat := 1 + x.v / 7 % (x.C - x.A)
theorem St.parts {x : St} (h : x.Ok) : 1 ≤ x.B ∧ x.A + x.B ≤ x.C ∧ x.C ≤ 65536 ∧ 1 ≤ x.C := by
  have h5 := h.2.2.2.2
  have hC : x.C = 1 + x.total := rfl
  have hA : x.A < x.C := Nat.mod_lt _ (by omega)
  have hB : x.v / 7 % (x.C - x.A) < x.C - x.A := Nat.mod_lt _ (by omega)
  have hBe : x.B = 1 + x.v / 7 % (x.C - x.A) := rfl
  omega
/-- The five cells of a step. -/
def IsStep (w : World) (b o : Nat) (x : St) : Prop :=
  w.cell? ⟨b, o, none⟩ = some (.int .u8 (x.what : Int)) ∧ w.cell? ⟨b, o + 1, none⟩ = some (.int .u8 (x.which : Int)) ∧ w.cell? ⟨b, o + 2, none⟩ = some (.int .u32 (x.v : Int)) ∧ w.cell? ⟨b, o + 3, none⟩ = some (.int .u8 (x.n : Int)) ∧ w.cell? ⟨b, o + 4, none⟩ = some (.int .u16 (x.total : Int)) ∧ x.Ok
/-- What a walk is told of the list of steps that came in. -/
def IsSteps (w : World) (a : Option Addr) (len : Nat) : Prop :=
  len ≤ maxLen ∧ (len = 0 ∨ ∃ b off, a = some ⟨b, off, none⟩ ∧ b < w.heap.size ∧ ∀ i, i < len → ∃ x : St, IsStep w b (off + i * 5) x)
end Go.Proofs.Ythejbnodalnnpaa.Rc
