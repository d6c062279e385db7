/-
  Package arena: pages of cells (mathematics): where a cell lies.
-/
import Derived.Test.YteacmcckhjabmaaBase
import Derived.Lib.ItoaNum
set_option linter.unusedVariables false
namespace Go.Proofs.Yteacmcckhjabmaa.Ar
open Go.RowKit
open Rc
/-- The page of a cell. -/
def lg (i : Nat) : Nat := Lib.bitLen i - 1
/-- Its place there. -/
def pk (i : Nat) : Nat := i - 2 ^ lg i
theorem lg_spec {i : Nat} (h1 : 1 ≤ i) (h2 : i < 18446744073709551616) : Lib.bitLen i = lg i + 1 ∧ 2 ^ lg i ≤ i ∧ i < 2 ^ (lg i + 1) ∧ lg i < 64 := by
  obtain ⟨a, b, c⟩ := Lib.bitLenAux_bounds 64 i h2 (by omega)
  have e : Lib.bitLen i = Lib.bitLenAux 64 i := rfl
  unfold lg
  rw [e]
  refine ⟨by omega, b, ?_, ?_⟩
  · rw [show Lib.bitLenAux 64 i - 1 + 1 = Lib.bitLenAux 64 i by omega]; exact c
  · by_cases hc : Lib.bitLenAux 64 i - 1 < 64
    · exact hc
    · have : 2 ^ 64 ≤ 2 ^ (Lib.bitLenAux 64 i - 1) := Nat.pow_le_pow_right (by omega) (by omega)
      omega
theorem lg_is {i j : Nat} (h1 : 2 ^ j ≤ i) (h2 : i < 2 ^ (j + 1)) (h3 : i < 18446744073709551616) : lg i = j := by
  have hp : 0 < 2 ^ j := Nat.pow_pos (by omega)
  obtain ⟨_, a, b, _⟩ := lg_spec (i := i) (by omega) h3
  by_cases hlt : lg i < j
  · have : 2 ^ (lg i + 1) ≤ 2 ^ j := Nat.pow_le_pow_right (by omega) (by omega)
    omega
  · by_cases hgt : j < lg i
    · have : 2 ^ (j + 1) ≤ 2 ^ lg i := Nat.pow_le_pow_right (by omega) (by omega)
      omega
    · omega
theorem bl_zero : Lib.bitLen 0 = 0 := by decide
/-- How large a page is. -/
def psz (cells j : Nat) : Nat := min (2 ^ j) (cells + 1 - 2 ^ j)
theorem pk_lt {cells i : Nat} (h1 : 1 ≤ i) (h2 : i ≤ cells) (h3 : cells < 9223372036854775808) : pk i < psz cells (lg i) := by
  obtain ⟨_, a, b, _⟩ := lg_spec (i := i) h1 (by omega)
  unfold pk psz
  rw [Nat.pow_succ] at b
  omega
/-- More used: as many pages, or one more. -/
theorem bl_next {u : Nat} (h : u < 9223372036854775807) : Lib.bitLen (u + 1) = Lib.bitLen u ∧ lg (u + 1) < Lib.bitLen u ∨ Lib.bitLen (u + 1) = Lib.bitLen u + 1 ∧ lg (u + 1) = Lib.bitLen u ∧ u + 1 = 2 ^ lg (u + 1) := by
  obtain ⟨a0, a1, a2, a3⟩ := lg_spec (i := u + 1) (by omega) (by omega)
  by_cases h0 : u = 0
  · subst h0
    right
    have e : Lib.bitLen (0 + 1) = 1 := by decide
    have e2 : lg (0 + 1) = 0 := by unfold lg; rw [e]
    rw [e, bl_zero, e2]
    exact ⟨rfl, rfl, rfl⟩
  · obtain ⟨b0, b1, b2, b3⟩ := lg_spec (i := u) (by omega) (by omega)
    by_cases hq : u + 1 < 2 ^ (lg u + 1)
    · have := lg_is (i := u + 1) (j := lg u) (by omega) hq (by omega)
      left
      omega
    · have hu : u + 1 = 2 ^ (lg u + 1) := by omega
      have := lg_is (i := u + 1) (j := lg u + 1) (by omega) (by rw [Nat.pow_succ]; have : 0 < 2 ^ (lg u + 1) := Nat.pow_pos (by omega); omega) (by omega)
      right
      refine ⟨by omega, by omega, ?_⟩
      rw [this]
      exact hu
theorem nodup_len : ∀ (n : Nat) (l : List Nat), l.Nodup → (∀ x ∈ l, 1 ≤ x ∧ x ≤ n) → l.length ≤ n
  | 0, [], _, _ => Nat.le_refl _
  | 0, x :: l, _, h => by have := h x List.mem_cons_self; omega
  | n + 1, l, hn, h => by
    by_cases hm : n + 1 ∈ l
    · have h1 := nodup_len n (l.erase (n + 1)) (hn.erase _) (fun x hx => by
        have h2 := (List.Nodup.mem_erase_iff hn).1 hx
        have h3 := h x h2.2
        have := h2.1
        omega)
      rw [List.length_erase_of_mem hm] at h1
      omega
    · have := nodup_len n l hn (fun x hx => by
        have h3 := h x hx
        have : x ≠ n + 1 := fun e => hm (e ▸ hx)
        omega)
      omega
/-- An arena as numbers: how many cells, how many of them were taken at least once, what each holds and whether it is taken, the free ones of them. -/
structure Aren where
  cells : Nat
  used : Nat
  C : Nat → Value × Bool
  F : List Nat
structure Aren.Ok (z : Aren) : Prop where
  most : z.cells < 9223372036854775808
  le : z.used ≤ z.cells
  nodup : z.F.Nodup
  free : ∀ x ∈ z.F, (1 ≤ x ∧ x ≤ z.used) ∧ (z.C x).2 = false
def Aren.takenB (z : Aren) (i : Int) : Bool := decide (1 ≤ i ∧ i ≤ (z.used : Int)) && (z.C i.toNat).2
def Aren.left (z : Aren) : Int := (z.cells : Int) - z.used + z.F.length
theorem Aren.Ok.len {z : Aren} (h : z.Ok) : z.F.length ≤ z.used := nodup_len _ _ h.nodup (fun x hx => (h.free x hx).1)
def upd (C : Nat → Value × Bool) (i : Nat) (x : Value × Bool) : Nat → Value × Bool := fun k => if k = i then x else C k
/-- Which cell comes next. -/
def Aren.next (z : Aren) : Nat := match z.F.getLast? with
  | some i => i
  | none => z.used + 1
def Aren.take (z : Aren) (v : Value) : Aren := ⟨z.cells, max z.used z.next, upd z.C z.next (v, true), z.F.dropLast⟩
def Aren.free (z : Aren) (i : Nat) (v0 : Value) : Aren := ⟨z.cells, z.used, upd z.C i (v0, false), z.F ++ [i]⟩
def Aren.set (z : Aren) (i : Nat) (v : Value) : Aren := ⟨z.cells, z.used, upd z.C i (v, (z.C i).2), z.F⟩
end Go.Proofs.Yteacmcckhjabmaa.Ar
