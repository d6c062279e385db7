/-
  Layer 3's statements: a step that came in, its part; the encoder in lockstep with the reference's.
-/
import Derived.Test.YtocoehjggkkoeaaRcSpeaks
import Derived.Deep.DeepCutAuto
import Derived.Deep.CutBlock
namespace Go.Proofs.Ytocoehjggkkoeaa.Rc
open Go.RowKit
/-- A step, as it came in. -/
structure St where
  what : Nat
  which : Nat
  v : Nat
  n : Nat
  total : Nat
def St.Ok (x : St) : Prop := x.what < 256 ∧ x.which < 256 ∧ x.v < 4294967296 ∧ x.n < 256 ∧ x.total < 65536
def St.C (x : St) : Nat := 1 + x.total
def St.A (x : St) : Nat := x.v % x.C
def St.B (x : St) : Nat := 1 + x.v / 7 % (x.C - x.A)
theorem St.parts {x : St} (h : x.Ok) : 1 ≤ x.B ∧ x.A + x.B ≤ x.C ∧ x.C ≤ 65536 ∧ 1 ≤ x.C := by
  have h5 := h.2.2.2.2
  have hC : x.C = 1 + x.total := rfl
  have hA : x.A < x.C := Nat.mod_lt _ (by omega)
  have hB : x.v / 7 % (x.C - x.A) < x.C - x.A := Nat.mod_lt _ (by omega)
  have hBe : x.B = 1 + x.v / 7 % (x.C - x.A) := rfl
  omega
/-- The five cells of a step. -/
def IsStep (w : World) (b o : Nat) (x : St) : Prop :=
  w.cell? ⟨b, o, none⟩ = some (.int .u8 (x.what : Int)) ∧ w.cell? ⟨b, o + 1, none⟩ = some (.int .u8 (x.which : Int)) ∧ w.cell? ⟨b, o + 2, none⟩ = some (.int .u32 (x.v : Int)) ∧ w.cell? ⟨b, o + 3, none⟩ = some (.int .u8 (x.n : Int)) ∧ w.cell? ⟨b, o + 4, none⟩ = some (.int .u16 (x.total : Int)) ∧ x.Ok
/-- What a walk is told of the list of steps that came in. -/
def IsSteps (w : World) (a : Option Addr) (len : Nat) : Prop :=
  len ≤ maxLen ∧ (len = 0 ∨ ∃ b off, a = some ⟨b, off, none⟩ ∧ b < w.heap.size ∧ ∀ i, i < len → ∃ x : St, IsStep w b (off + i * 5) x)
set_option maxHeartbeats 400000 in
theorem part_law (x : St) (h : x.Ok) (w : World) : Calls Try.prog 14 #[.agg #[.int .u8 (x.what : Int), .int .u8 (x.which : Int), .int .u32 (x.v : Int), .int .u8 (x.n : Int), .int .u16 (x.total : Int)]] w
    fun y w' => y = .returned (.tuple #[.int .u32 (x.A : Int), .int .u32 (x.B : Int), .int .u32 (x.C : Int)]) ∧ Below w.heap.size w w' := by
  obtain ⟨p1, p2, p3, p4⟩ := St.parts h
  obtain ⟨h1, h2, h3, h4, h5⟩ := h
  have hC : x.C = 1 + x.total := rfl
  have hA : x.v % x.C = x.A := rfl
  have hB : x.B = 1 + x.v / 7 % (x.C - x.A) := rfl
  have HC := Lib.hid (show (1 : Int) + (x.total : Int) = (x.C : Int) by omega)
  have HA := Lib.hid (show (x.v : Int) % (x.C : Int) = (x.A : Int) by rw [← hA]; simp)
  have HB := Lib.hid (show (1 : Int) + (x.v : Int) / 7 % ((x.C : Int) - (x.A : Int)) = (x.B : Int) by
    rw [hB, ← Int.ofNat_sub (by omega)]; simp)
  have HBM := Lib.hid (show (x.B : Int) % 4294967296 = (x.B : Int) by omega)
  generalize x.C = C at *
  generalize x.A = A at *
  generalize x.B = B at *
  clear hA hB hC
  go_enter Try.func14, Try.ntmps14
  go_upto_region 2 with (fail)
  rw [HC.out]
  go_wp2
  rw [HA.out]
  have e1 : IntKind.u32.wrap ((C : Int) - (A : Int)) = (C : Int) - (A : Int) := IntWalk.u32_in _ (by omega)
  have e2 : ((C : Int) - (A : Int) == 0) = false := by rw [beq_eq_false_iff_ne]; omega
  have e3 : ¬ ((C : Int) - (A : Int) = 0) := by omega
  go_quiet (fail)
  go_wp2
  go_ret3
  rw [HB.out, HBM.out]
  refine ⟨rfl, ?_⟩
  have hb := (Below.refl w.heap.size w).alloc (Nat.le_refl _) (.cells #[.int .u8 (x.what : Int), .int .u8 (x.which : Int), .int .u32 (x.v : Int), .int .u8 (x.n : Int), .int .u16 (x.total : Int)] 36)
  exact ⟨hb.os, hb.tape, hb.output, hb.size, hb.block⟩
end Go.Proofs.Ytocoehjggkkoeaa.Rc
