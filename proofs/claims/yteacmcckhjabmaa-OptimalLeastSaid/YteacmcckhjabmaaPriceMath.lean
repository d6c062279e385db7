/-
  Layer 15: what packets cost (plain mathematics); how many bits a number has, of any size.
-/
import Derived.Test.YteacmcckhjabmaaPackBase
import Derived.Lib.BitFns
set_option linter.unusedVariables false
namespace Go.Proofs.Yteacmcckhjabmaa.Pc
open Go.RowKit
open Pk (Pt)
/-- May a price be so? -/
def one (p : Int) : Bool := decide (1 ≤ p) && decide (p ≤ 10000)
/-- A table's prices: of a byte, a match, near and far lengths, a distance's bit. -/
structure Tb where
  l : Int
  m : Int
  n : Int
  f : Int
  b : Int
def Tb.val (t : Tb) : Value := .agg #[.int .i64 t.l, .int .i64 t.m, .int .i64 t.n, .int .i64 t.f, .int .i64 t.b]
def Tb.good (t : Tb) : Bool := one t.l && (one t.m && (one t.n && (one t.f && one t.b)))
/-- How many bits a distance has. -/
def dbits (d : Int) : Nat := if d < 1 then 0 else Lib.bitLen (d - 1).toNat
def Tb.len (t : Tb) (n : Int) : Int := if n < 10 then t.n else t.f
def Tb.dist (t : Tb) (d : Int) : Int := t.b * (dbits d : Int)
def Tb.cost (t : Tb) (n d : Int) : Int := t.m + t.len n + t.dist d
/-- What one packet costs. -/
def Tb.pt (t : Tb) (p : Pt) : Option Int := if p.k = 1 then some t.l else if p.k = 2 then some (t.cost p.n p.d) else none
/-- What packets cost together, with what there is already. -/
def Tb.go (t : Tb) : Int → List Pt → Option Int
  | a, [] => some a
  | a, p :: l => match t.pt p with
    | none => none
    | some c => t.go (a + c) l
theorem one_range {p : Int} (h : one p = true) : 1 ≤ p ∧ p ≤ 10000 := by
  unfold one at h
  simpa using h
theorem Tb.good_range {t : Tb} (h : t.good = true) : (1 ≤ t.l ∧ t.l ≤ 10000) ∧ (1 ≤ t.m ∧ t.m ≤ 10000) ∧ (1 ≤ t.n ∧ t.n ≤ 10000) ∧ (1 ≤ t.f ∧ t.f ≤ 10000) ∧ (1 ≤ t.b ∧ t.b ≤ 10000) := by
  unfold Tb.good at h
  simp only [Bool.and_eq_true] at h
  exact ⟨one_range h.1, one_range h.2.1, one_range h.2.2.1, one_range h.2.2.2.1, one_range h.2.2.2.2⟩
theorem dbits_le {d : Int} (h : d ≤ 9223372036854775807) : dbits d ≤ 63 := by
  unfold dbits
  split
  · omega
  · exact Lib.bitLen_le _ 63 (by omega) (by have : (2 : Nat) ^ 63 = 9223372036854775808 := by decide
                                            omega)
theorem Tb.len_range {t : Tb} (h : t.good = true) (n : Int) : 1 ≤ t.len n ∧ t.len n ≤ 10000 := by
  obtain ⟨_, _, h3, h4, _⟩ := t.good_range h
  unfold Tb.len
  split <;> assumption
theorem Tb.dist_range {t : Tb} (h : t.good = true) {d : Int} (hd : d ≤ 9223372036854775807) : 0 ≤ t.dist d ∧ t.dist d ≤ 630000 := by
  obtain ⟨_, _, _, _, h5, h6⟩ := t.good_range h
  have hb := dbits_le hd
  unfold Tb.dist
  generalize dbits d = k at *
  have hk : (k : Int) ≤ 63 := by omega
  refine ⟨Int.mul_nonneg (by omega) (by omega), ?_⟩
  have : t.b * (k : Int) ≤ 10000 * 63 := Int.mul_le_mul h6 hk (by omega) (by omega)
  omega
theorem Tb.cost_range {t : Tb} (h : t.good = true) (n : Int) {d : Int} (hd : d ≤ 9223372036854775807) : 2 ≤ t.cost n d ∧ t.cost n d ≤ 650000 := by
  have h1 := t.len_range h n
  have h2 := t.dist_range h hd
  obtain ⟨_, h3, _⟩ := t.good_range h
  unfold Tb.cost
  omega
theorem Tb.pt_range {t : Tb} (h : t.good = true) {p : Pt} (hd : p.d ≤ 9223372036854775807) {c : Int} (hc : t.pt p = some c) : 1 ≤ c ∧ c ≤ 650000 := by
  unfold Tb.pt at hc
  obtain ⟨h1, _⟩ := t.good_range h
  have h2 := t.cost_range h p.n hd
  split at hc
  · cases hc; omega
  · split at hc
    · cases hc; omega
    · cases hc
end Go.Proofs.Yteacmcckhjabmaa.Pc
